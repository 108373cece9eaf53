/- The reference implementation of layer 1: write: the walk. -/
import Derived.Test.YtldohkfomdcpoaaGreatDoorRefJ
import Derived.Test.YtldohkfomdcpoaaGreatDoorRefE
namespace Go.Proofs.YtldohkfomdcpoaaGreatDoor
open Go.RowKit

theorem num_strip (l : List UInt8) : Num.num (Num.strip l) = Num.num l := by
  unfold Num.strip
  induction l with
  | nil => rfl
  | cons c l ih =>
    rw [List.dropWhile_cons]
    split
    · rename_i h
      have : c = 48 := by simpa using h
      subst this
      rw [ih, Num.num_cons]
      simp [Num.dv]
    · rfl
theorem val_digits {l : List UInt8} (h : l.all Num.isDig = true) : Num.val l = (Num.num l : Int) := by
  have h1 : Num.sdig l = Num.strip l := by unfold Num.sdig; rw [Num.cut_of_plain h]; simp only [h]; rfl
  have h2 : Num.sneg l = false := by unfold Num.sneg; rw [Num.cut_of_plain h]; rfl
  unfold Num.val Num.mag
  rw [h2, h1, num_strip]; rfl
theorem val_minus {l : List UInt8} (h : l.all Num.isDig = true) : Num.val (45 :: l) = -(Num.num l : Int) := by
  have h1 : Num.sdig (45 :: l) = Num.strip l := by unfold Num.sdig; rw [Num.cut_minus]; simp only [h]; rfl
  have h2 : Num.sneg (45 :: l) = !(Num.strip l).isEmpty := by unfold Num.sneg; rw [Num.cut_minus, h1]; rfl
  unfold Num.val Num.mag
  rw [h2, h1, ← num_strip l]
  cases hs : (Num.strip l).isEmpty
  · simp
  · have : Num.strip l = [] := by simpa using hs
    rw [this]; rfl

/-- i groups and k digits of the next one, x, are written -/
structure WRel (zs : List Int) (i k x : Nat) (T : List UInt8) : Prop where
  all : T.all Num.isDig = true
  len : T.length = 9 * i + k
  num : (Num.num T : Int) = Num.gval (zs.take i) + Num.B ^ i * ((x % 10 ^ k : Nat) : Int)

theorem Bpow_eq (i : Nat) : Num.B ^ i = ((10 ^ (9 * i) : Nat) : Int) := by
  rw [Nat.pow_mul]; unfold Num.B; rw [Int.natCast_pow]; rfl
theorem WRel.start (zs : List Int) : WRel zs 0 0 0 [] := ⟨rfl, rfl, by simp [Num.gval, Num.num]⟩
theorem WRel.at {zs : List Int} {i x : Nat} {T : List UInt8} (h : WRel zs i 0 0 T) : WRel zs i 0 x T := ⟨h.all, h.len, by rw [h.num]; simp [Nat.mod_one]⟩
theorem WRel.step {zs : List Int} {i k x : Nat} {T : List UInt8} (h : WRel zs i k x T) : WRel zs i (k + 1) x (UInt8.ofNat (48 + x / 10 ^ k % 10) :: T) := by
  have hd : x / 10 ^ k % 10 < 10 := Nat.mod_lt _ (by decide)
  refine ⟨?_, by simp [h.len]; omega, ?_⟩
  · rw [List.all_cons, Num.isDig_ofNat _ hd, h.all]; rfl
  · rw [Num.num_cons, Num.dv_ofNat _ hd, h.len, Nat.mod_pow_succ]
    have := h.num
    rw [Bpow_eq] at this ⊢
    rw [Nat.pow_add]
    simp only [Int.natCast_add, Int.natCast_mul] at this ⊢
    rw [this, Int.mul_add]
    have e : ((x / 10 ^ k % 10 : Nat) : Int) * (((10 ^ (9 * i) : Nat) : Int) * ((10 ^ k : Nat) : Int)) = ((10 ^ (9 * i) : Nat) : Int) * (((10 ^ k : Nat) : Int) * ((x / 10 ^ k % 10 : Nat) : Int)) := by
      rw [Int.mul_comm, Int.mul_assoc]
    rw [e]; omega
theorem WRel.next {zs : List Int} {i x : Nat} {T : List UInt8} (h : WRel zs i 9 x T) (hx : (x : Int) = zs.getD i 0) (hb : x < 1000000000) : WRel zs (i + 1) 0 0 T := by
  refine ⟨h.all, by rw [h.len]; omega, ?_⟩
  rw [h.num, Num.gval_take_succ, ← hx, Nat.mod_eq_of_lt (show x < 10 ^ 9 by omega)]
  simp

set_option maxRecDepth 100000 in
set_option maxHeartbeats 2000000 in
theorem rWrite_any (ng : Bool) (w : World) (xa : Option Addr) (cap n : Nat) (zs : List Int) (hn : zs.length = n) (hx : Rd w xa cap zs) (cz : Num.Norm zs) (hlim : n ≤ 1000) :
    Calls Tryz.prog 78 #[.agg #[.bool ng, .slice xa n cap]] w (StrPost w (sg ng (Num.gval zs))) := by
  have HN := Lib.hid hn
  clear hn
  go_enter Tryz.func78, Tryz.ntmps78
  obtain ⟨W0, hW0⟩ : ∃ W0, W0 = w.alloc (.cells #[.bool ng, .slice xa n cap] 82) := ⟨_, rfl⟩
  have hN0 : NumAt W0 w.heap.size ng (.slice xa n cap) := by rw [hW0]; exact heap_alloc_new w _
  have hB0 : Below w.heap.size w W0 := by rw [hW0]; exact (Below.refl _ _).alloc (Nat.le_refl _) _
  have hx0 := hx.below hB0
  obtain ⟨hc0, hc1, _, _⟩ := hN0.cells
  go_wp2_with fail
  rw [← hW0]
  have HB0 := Lib.hid hB0
  clear hW0 hN0 hB0
  go_loop [3, 4] (fun tv iv => ∃ (i : Nat) (T : List UInt8), i ≤ n ∧ iv = .int .i64 i ∧ tv = .string ⟨T.toArray⟩ ∧ WRel zs i 0 0 T) (fun _ iv => n - (intOf iv).toNat)
  case atStart => exact ⟨0, [], Nat.zero_le _, rfl, rfl, WRel.start zs⟩
  case round =>
    obtain ⟨i, T, hi, rfl, rfl, hr⟩ := hrel
    have HR := Lib.hid hr
    clear hr
    by_cases hlt : i < n
    · obtain ⟨x, hxx⟩ : ∃ x : Nat, (x : Int) = zs.getD i 0 := ⟨(zs.getD i 0).toNat, by have := (cz.getD i).1; omega⟩
      have hxb : x < 1000000000 := by have := (cz.getD i).2; unfold Num.B at this; omega
      obtain ⟨X, hX⟩ : ∃ X : Int, X = (x : Int) := ⟨_, rfl⟩
      obtain ⟨b, o, rfl, hsr⟩ := hx0.sl (by have := HN.out; omega)
      have hcell : W0.cell? ⟨b, o + i, none⟩ = some (.int .i64 X) := by
        rw [hX, hxx]; exact hsr.cell i (by have := HN.out; omega)
      have hcapb : n ≤ cap := by have := hsr.le; have := HN.out; omega
      have hcapm := hsr.max
      have HXX := Lib.hid hxx
      have HXB := Lib.hid hxb
      have HX := Lib.hid hX
      clear hxx hxb hX
      go_wp2_with fail
      go_loop [3, 5, 6] (fun tv nv kv => ∃ (k : Nat) (y : Int) (T : List UInt8), k ≤ 9 ∧ kv = .int .i64 k ∧ nv = .int .i64 y ∧ 0 ≤ y ∧ y ≤ 999999999 ∧ y.toNat = x / 10 ^ k ∧ tv = .string ⟨T.toArray⟩ ∧ WRel zs i k x T) (fun _ _ kv => 9 - (intOf kv).toNat)
      case atStart => exact ⟨0, X, T, by omega, rfl, rfl, by have := HX.out; omega, by have := HX.out; have := HXB.out; omega, by have := HX.out; simp; omega, rfl, HR.out.at⟩
      case round =>
        clear HR
        obtain ⟨k, y, T, hk, rfl, rfl, hy0, hy1, hyx, rfl, hr⟩ := hrel
        by_cases hk9 : k < 9
        · have hs := hr.step
          obtain ⟨d, hd⟩ : ∃ d, d = x / 10 ^ k % 10 := ⟨_, rfl⟩
          rw [← hd] at hs
          rw [← hyx] at hd
          have hE := enc_digit d (by omega)
          obtain ⟨c, hc⟩ : ∃ c, c = UInt8.ofNat (48 + d) := ⟨_, rfl⟩
          rw [← hc] at hs hE
          obtain ⟨z, hzz⟩ : ∃ z : Int, z = (d : Int) := ⟨_, rfl⟩
          rw [← hzz] at hE
          have hmod : y % 10 = z := by omega
          have hz0 : 0 ≤ z := by omega
          have hz9 : z ≤ 9 := by omega
          have hdiv : (y / 10).toNat = x / 10 ^ (k + 1) := by rw [Nat.pow_succ, ← Nat.div_div_eq_div_mul, ← hyx]; omega
          have htl : T.length ≤ 10000 := by have := hr.len; omega
          have HS := Lib.hid hs
          have HD := Lib.hid hdiv
          clear hs hd hc hzz hdiv hyx hr
          go_wp2_with fail
          go_round
          case rel => exact ⟨k + 1, y / 10, _, by omega, by go_num, rfl, by omega, by omega, HD.out, by rw [← one_append]; rfl, HS.out⟩
          case measure => simp [intOf]; omega
        · obtain rfl : k = 9 := by omega
          have hs := hr.next HXX.out HXB.out
          have HS := Lib.hid hs
          clear hs hyx hr
          go_wp2_with fail
          go_round
          case rel => exact ⟨i + 1, _, by omega, by go_num, rfl, HS.out⟩
          case measure => simp [intOf]; omega
    · obtain rfl : i = n := by omega
      have hnum : (Num.num T : Int) = Num.gval zs := by
        have := HR.out.num
        rw [List.take_of_length_le (by have := HN.out; omega)] at this
        rw [this]; simp
      have hall := HR.out.all
      have htl : T.length ≤ 10000 := by have := HR.out.len; omega
      have HT := Lib.hid hnum
      have HALL := Lib.hid hall
      clear hnum hall
      cases ng
      · have hv : vS ⟨T.toArray⟩ = sg false (Num.gval zs) := by unfold vS; show Num.val T = _; rw [val_digits HALL.out, HT.out]; rfl
        have HV := Lib.hid hv
        have hsz : (ByteArray.mk T.toArray).size ≤ 4294967296 := by show T.toArray.size ≤ _; simp; omega
        clear hv
        go_wp2_with fail
        refine (rCanonical_any _ _ hsz).mono ?_
        rintro e _ ⟨rfl, rfl⟩
        go_wp2_with fail
        go_ret
        exact ⟨by rw [HV.out]; rfl, HB0.out⟩
      · have hv : vS (ByteArray.mk #[45] ++ ⟨T.toArray⟩) = sg true (Num.gval zs) := by rw [minus_append]; unfold vS; show Num.val (45 :: T) = _; rw [val_minus HALL.out, HT.out]; rfl
        have HV := Lib.hid hv
        have hsz : (ByteArray.mk #[45] ++ ⟨T.toArray⟩).size ≤ 4294967296 := by rw [minus_append]; show (45 :: T).toArray.size ≤ _; simp; omega
        have HSZ := Lib.hid hsz
        clear hv hsz
        go_wp2_with fail
        refine (rCanonical_any _ _ HSZ.out).mono ?_
        rintro e _ ⟨rfl, rfl⟩
        go_wp2_with fail
        go_ret
        exact ⟨by rw [HV.out]; rfl, HB0.out⟩

end Go.Proofs.YtldohkfomdcpoaaGreatDoor
