/- integer.combine, multiply: walks. -/
import Derived.Test.YtldohkfomdcpoaaGreatDoorTrim
import Derived.Laws.CopyOwn
namespace Go.Proofs.YtldohkfomdcpoaaGreatDoor
open Go.RowKit
open Num (Part put Filled)

theorem below_of_grown {w0 w w' : World} {b : Nat} (h : Below w0.heap.size w0 w) (hg : w.grownBy w' (some b)) (hb : w0.heap.size ≤ b) : Below w0.heap.size w0 w' :=
  h.grown hg h.size (fun k e => by injection e with e; omega)

/-- the result of a function that makes a new row: the row's beginning -/
def NewRow (w : World) (zs : List Int) (e : Ending) (w' : World) : Prop :=
  ∃ b cap, e = .returned (.slice (some ⟨b, 0, none⟩) zs.length cap) ∧ Sl w' b 0 cap zs ∧ w.heap.size ≤ b ∧ Below w.heap.size w w'

theorem prefix_getD {xs ys : List Int} (h : xs <+: ys) {i : Nat} (hi : i < xs.length) : ys.getD i 0 = xs.getD i 0 := by
  obtain ⟨t, rfl⟩ := h
  simp only [List.getD_eq_getElem?_getD]
  rw [List.getElem?_append_left hi]
/-- a beginning of a row -/
theorem Row.prefix {w : World} {b : Nat} {zs ys : List Int} (h : Row w b zs) (hp : ys <+: zs) {cap : Nat} (hc : ys.length ≤ cap) (hm : cap ≤ 1099511627776) : Sl w b 0 cap ys :=
  h.part (fun i hi => by have := hp.length_le; rw [Nat.zero_add]; exact ⟨by omega, (prefix_getD hp hi).symm⟩) hc hm

theorem size_int : (Tryz.prog.info? 3).map (·.size) = some 1 := by kernel_rfl

/-- copy(sum, x) into a row of zeros that is not shorter -/
theorem run_copyInts (W : World) (g L : Nat) (xa : Option Addr) (cap n : Nat) (xs : List Int) (hn : xs.length = n) (hr : Row W g (List.replicate L 0))
    (hx : 0 < n → ∃ b o, xa = some ⟨b, o, none⟩ ∧ Sl W b o cap xs) (hnl : n ≤ L) :
    ∃ W1, (Builtin.copy_ #[80, 80] 3 #[.slice (some ⟨g, 0, none⟩) L L, .slice xa n cap]).run Tryz.prog W = .ok (.int .i64 n) W1 ∧ Row W1 g (xs ++ List.replicate (L - n) 0) ∧ W.grownBy W1 (some g) := by
  by_cases h0 : n = 0
  · subst h0
    obtain rfl : xs = [] := List.eq_nil_of_length_eq_zero hn
    exact ⟨W, run_copy_none W _ _ _ 3 _ _ _ _ _ _ Tryz.underlying80 size_int (by simp), by simpa using hr, grown_refl _ _⟩
  · obtain ⟨b, o, rfl, hsl⟩ := hx (by omega)
    have hrun := run_copy_row (P := Tryz.prog) W 80 80 3 3 g 0 L L ⟨b, o, none⟩ n cap _ _ (xs.map (Value.int .i64)) Tryz.underlying80 size_int hr (by rw [List.length_map, hn]; exact (Nat.min_eq_left hnl).symm)
      (fun j v hj => by
        rw [List.getElem?_map] at hj
        obtain ⟨x, hx1, rfl⟩ := Option.map_eq_some_iff.1 hj
        have hlt := (List.getElem?_eq_some_iff.1 hx1).1
        have := hsl.cell j hlt
        have e : (⟨b, o, none⟩ : Addr).add j = ⟨b, o + j, none⟩ := by unfold Addr.add; split <;> simp_all
        rw [e, this]
        simp [List.getD, hx1])
      (by simp; omega) (fun v hv => by obtain ⟨x, _, rfl⟩ := List.mem_map.1 hv; rfl)
    have e : goInt ((xs.map (Value.int .i64)).length : Nat) = .int .i64 n := by simp [goInt, hn]
    rw [e] at hrun
    refine ⟨_, hrun, ?_, ⟨rfl, rfl, rfl, by simp, fun k _ hne => setRow_other W g k _ (fun e => hne (by rw [e]))⟩⟩
    unfold Row
    rw [setRow_heap _ _ _ _ _ _ hr]
    simp [hn]

set_option maxRecDepth 100000 in
set_option maxHeartbeats 1000000 in
theorem combine_any (f : Int) (w : World) (xa : Option Addr) (cap ob oy capy n m : Nat) (xs ys zs : List Int) (hn : xs.length = n) (hm : ys.length = m) (hx : 0 < n → ∃ b o, xa = some ⟨b, o, none⟩ ∧ Sl w b o cap xs) (hy : Sl w ob oy capy ys) (cx : Num.Norm xs) (cy : Num.Norm ys)
    (hf : f = 1 ∨ f = -1) (hlim : n ≤ 1000000000 ∧ m ≤ 1000000000) (hz : Num.Can zs) (hv : Num.gval zs = Num.gval xs + f * Num.gval ys) :
    Calls Tryz.prog 82 #[.slice xa n cap, .slice (some ⟨ob, oy, none⟩) m capy, .int .i64 f] w (NewRow w zs) := by
  obtain ⟨l, hl⟩ : ∃ l, l = max n m + 1 := ⟨_, rfl⟩
  have hmk := run_makeInts l (by omega)
  rw [show (l : Int) = max (n : Int) m + 1 by omega] at hmk
  have hnl : n < l ∧ m < l ∧ l ≤ 1000000001 := by omega
  have hf0 : -999999999 ≤ f ∧ f ≤ 999999999 := by omega
  obtain ⟨W1, hcp, hrow1, hg1⟩ := run_copyInts (w.alloc (zeroRow l)) w.heap.size l xa cap n xs hn (Row.made w l) (fun h => (hx h).imp fun b h => h.imp fun o h => ⟨h.1, h.2.alloc _⟩) (by omega)
  have hB1 : Below w.heap.size w W1 := below_of_grown ((Below.refl _ _).alloc (Nat.le_refl _) _) hg1 (Nat.le_refl _)
  have hy1 : Sl W1 ob oy capy ys := hy.below hB1 hy.lt
  have hne : ob ≠ w.heap.size := Nat.ne_of_lt hy.lt
  obtain ⟨Z, hZ⟩ : ∃ Z, Z = xs ++ List.replicate (l - n) 0 := ⟨_, rfl⟩
  have hZl : Z.length = l := by rw [hZ]; simp [hn]; omega
  have hnorm : Num.Norm Z := by rw [hZ]; exact cx.append (Num.Norm.zeros _)
  have hlast : Z.getD (l - 1) 0 = 0 := by
    rw [hZ]; simp only [List.getD_eq_getElem?_getD]
    rw [List.getElem?_append_right (by omega), List.getElem?_replicate]; split <;> rfl
  have hgZ : Num.gval Z = Num.gval xs := by rw [hZ, Num.gval_append, Num.gval_zeros]; simp
  have hall : ∀ i, i < l → 0 ≤ Z.getD i 0 ∧ Z.getD i 0 < Num.B := fun i hi => by
    have := hnorm.at (show i < Z.length by omega)
    simp only [List.getD_eq_getElem?_getD]
    rw [List.getElem?_eq_getElem (by omega)]; exact this
  rw [← hZ] at hrow1
  have HR := Lib.hid hrow1
  have HL := Lib.hid hl
  have HZ := Lib.hid hZl
  have HA := Lib.hid hall
  have HLast := Lib.hid hlast
  have HG := Lib.hid hgZ
  have HV := Lib.hid hv
  have HM := Lib.hid hm
  have HB := Lib.hid hB1
  clear hl hrow1 hZl hall hlast hgZ hv hm hn hB1 hg1 hZ hf hx
  go_enter Tryz.func82, Tryz.ntmps82
  go_wp2_with fail
  refine (addTimes_any f W1 w.heap.size 0 l l ob oy capy m Z ys HM.out HR.out hy1 hne (by omega) (by have := HZ.out; omega) (by have := HZ.out; omega)
    (fun i hi => by rw [Nat.zero_add]; exact HA.out i (by omega)) (by rw [Nat.zero_add, HLast.out]; omega) cy hf0.1 hf0.2).mono ?_
  rintro e W2 ⟨rfl, ws, hfil, hrow2, hg2⟩
  have hpart : Num.part Z 0 l = Z := by unfold Num.part; rw [List.drop_zero, List.take_of_length_le (by have := HZ.out; omega)]
  rw [hpart] at hfil
  have hwl : ws.length = l := by rw [hfil.len, HZ.out]
  have hput : put Z 0 ws = ws := by unfold put; rw [List.take_zero, List.nil_append, List.drop_of_length_le (by have := HZ.out; omega), List.append_nil]
  rw [hput] at hrow2
  have hnn : 0 ≤ Num.gval Z + f * Num.gval ys := by rw [HG.out, ← HV.out]; exact Num.gval_nonneg hz.1
  have hws : Num.Norm ws := hfil.norm_all hnn (by rw [HZ.out]; exact HLast.out) (by have := HZ.out; omega)
  have htr : Num.trimmed ws = zs := Num.gval_inj (Num.Can.trimmed hws) hz (by rw [Num.gval_trimmed, hfil.eq, HG.out, HV.out])
  have hB2 : Below w.heap.size w W2 := below_of_grown HB.out hg2 (Nat.le_refl _)
  have hpre := (Num.trimmed_prefix ws).length_le
  have hsl := hrow2.prefix (Num.trimmed_prefix ws) (cap := l) (by omega) (by omega)
  rw [htr] at hsl
  have HTR := Lib.hid htr
  have HSL := Lib.hid hsl
  have HB2 := Lib.hid hB2
  have HRow := Lib.hid hrow2
  have HW := Lib.hid hwl
  clear htr hsl hB2 hrow2 hwl hput hpart hfil hws hpre hg2
  go_wp2_with fail
  refine (trim_any W2 _ 0 l l ws HW.out (HRow.out.sl (by have := HW.out; omega) (by omega))).mono ?_
  rintro e W3 ⟨rfl, rfl⟩
  go_wp2_with fail
  go_ret
  exact ⟨w.heap.size, l, by rw [← HTR.out]; rfl, HSL.out, Nat.le_refl _, HB2.out⟩

/-- what multiply leaves: a row of its own with the product -/
def Product (w : World) (xs ys : List Int) (e : Ending) (w' : World) : Prop :=
  ∃ Z, e = .returned (.slice (some ⟨w.heap.size, 0, none⟩) (xs.length + ys.length) (xs.length + ys.length)) ∧ Row w' w.heap.size Z ∧ Z.length = xs.length + ys.length ∧ Num.Norm Z ∧ Num.gval Z = Num.gval xs * Num.gval ys ∧ Below w.heap.size w w'

set_option maxRecDepth 100000 in
set_option maxHeartbeats 1000000 in
theorem multiply_any (w : World) (b o cap ob oy capy n m : Nat) (xs ys : List Int) (hn : xs.length = n) (hm : ys.length = m) (hx : Sl w b o cap xs) (hy : Sl w ob oy capy ys) (cx : Num.Norm xs) (cy : Num.Norm ys)
    (hlim : n ≤ 1000000000 ∧ m ≤ 1000000000) :
    Calls Tryz.prog 104 #[.slice (some ⟨b, o, none⟩) n cap, .slice (some ⟨ob, oy, none⟩) m capy] w (Product w xs ys) := by
  have hmk := run_makeInts (n + m) (by omega)
  rw [show ((n + m : Nat) : Int) = (n : Int) + m by omega] at hmk
  have HN := Lib.hid hn
  have HM := Lib.hid hm
  clear hn hm
  go_enter Tryz.func104, Tryz.ntmps104
  go_wp2
  go_loopw [16] (fun i wr => ∃ k : Nat, k ≤ n ∧ i = .int .i64 k ∧ ∃ Z, Num.MulInv xs ys (n + m) k Z ∧ Row wr w.heap.size Z ∧ Below w.heap.size w wr) (fun i _ => n - (intOf i).toNat)
  case atStart => exact ⟨0, Nat.zero_le _, rfl, _, Num.MulInv.start _ _ _, Row.made w _, (Below.refl _ _).alloc (Nat.le_refl _) _⟩
  case round =>
    obtain ⟨k, hk, rfl, Z, hinv, hrow, hB⟩ := hrel
    have HI := Lib.hid hinv
    have HR := Lib.hid hrow
    have HB := Lib.hid hB
    clear hinv hrow hB
    by_cases hlt : k < n
    · obtain ⟨x, hxx⟩ : ∃ x, x = xs.getD k 0 := ⟨_, rfl⟩
      have hc : wr.cell? ⟨b, o + k, none⟩ = some (.int .i64 x) := by
        rw [hxx]; exact (hx.below HB.out hx.lt).cell k (by have := HN.out; omega)
      have HX := Lib.hid hxx
      clear hxx
      have hne : ob ≠ w.heap.size := Nat.ne_of_lt hy.lt
      have hxb := cx.getD k
      have hyr := hy.below HB.out hy.lt
      go_wp2_with fail
      rw [show k + m + 1 - k = m + 1 by omega]
      refine (addTimes_any x wr w.heap.size k (m + 1) (n + m - k) ob oy capy m Z ys HM.out HR.out hyr hne (by omega) (by have := HI.out.len; omega) (by have := HI.out.len; omega)
        (fun i hi => HI.out.norm.getD _) (by have := HI.out.norm.getD (k + (m + 1 - 1)); unfold Num.B at this; omega) cy (by rw [← HX.out] at hxb; omega) (by rw [← HX.out] at hxb; unfold Num.B at hxb; omega)).mono ?_
      rintro e W2 ⟨rfl, ws, hfil, hrow2, hg2⟩
      have hB2 : Below w.heap.size w W2 := below_of_grown HB.out hg2 (Nat.le_refl _)
      have hinv2 := HI.out.step cy cx (by have := HM.out; omega) (by rw [HM.out, ← HX.out]; exact hfil)
      have HI2 := Lib.hid hinv2
      have HR2 := Lib.hid hrow2
      have HB2 := Lib.hid hB2
      clear hinv2 hrow2 hB2 hfil hg2 hyr
      go_wp2_with fail
      go_roundw
      case rel => exact ⟨k + 1, by omega, by go_num, _, HI2.out, HR2.out, HB2.out⟩
      case measure => simp [intOf]; omega
    · obtain rfl : k = n := by omega
      go_wp2_with fail
      go_ret
      refine ⟨Z, by rw [HN.out, HM.out]; rfl, HR.out, by rw [HN.out, HM.out]; exact HI.out.len, HI.out.norm, ?_, HB.out⟩
      rw [HI.out.eq, List.take_of_length_le (by have := HN.out; omega)]
end Go.Proofs.YtldohkfomdcpoaaGreatDoor
