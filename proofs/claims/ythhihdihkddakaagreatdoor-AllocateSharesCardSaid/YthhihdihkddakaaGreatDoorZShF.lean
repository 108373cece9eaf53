/- The reference implementation of layer 1: Of: the walk. -/
import Derived.Test.YthhihdihkddakaaGreatDoorZShB
import Derived.Test.YthhihdihkddakaaGreatDoorZShD
import Derived.Test.YthhihdihkddakaaGreatDoorZShE
import Derived.Deep.CutBlock
import Derived.Deep.DeepCutAuto
import Derived.Laws.Runes
namespace Go.Proofs.YthhihdihkddakaaGreatDoor
open Go.RowKit

theorem digs_step {M : Nat} (h : M ≠ 0) : Num.digs M = Num.digs (M / 10) ++ [UInt8.ofNat (48 + M % 10)] := by
  unfold Num.digs
  rw [if_neg h]
  by_cases h1 : M < 10
  · rw [Lib.decDigits, dif_pos h1, if_pos (by omega), Nat.mod_eq_of_lt h1]; rfl
  · rw [Lib.decDigits, dif_neg h1, if_neg (by omega)]

theorem enc_low (r : Nat) (h : r < 128) : Utf8.encode (r : Int) = ⟨#[UInt8.ofNat r]⟩ := by
  have v : Utf8.valid (r : Int) = true := by simp [Utf8.valid]; omega
  simp [Utf8.encode, v, h]
/-- the text of a digit -/
theorem enc_digit (x : Nat) (h : x < 10) : Utf8.encode (48 + (x : Int)) = ⟨#[UInt8.ofNat (48 + x)]⟩ := by
  rw [show (48 : Int) + (x : Int) = ((48 + x : Nat) : Int) by omega, enc_low _ (by omega)]
theorem one_append (c : UInt8) (d : List UInt8) : (ByteArray.mk #[c]) ++ (ByteArray.mk d.toArray) = ⟨(c :: d).toArray⟩ := by
  apply ByteArray.ext
  simp [ByteArray.data_append]

/-- the digits that are written so far: those of N are those of M, and these -/
def OfRel (N M : Nat) (t : List UInt8) : Prop := Num.digs M ++ t = Num.digs N ∧ t.length ≤ 20

theorem digs_len {N : Nat} (h : N ≤ 9223372036854775808) : (Num.digs N).length ≤ 20 := by
  have h1 := canon_length_le (z := (N : Int)) (k := 19) (by simp; omega)
  have h2 : Num.canon (N : Int) = Num.digs N := by unfold Num.canon; rw [if_neg (by omega)]; simp
  rw [h2] at h1; exact h1
theorem OfRel.start {N : Nat} : OfRel N N [] := ⟨by simp, by simp⟩
theorem OfRel.step {N M : Nat} {t : List UInt8} (hN : N ≤ 9223372036854775808) (h : OfRel N M t) (h0 : M ≠ 0) : OfRel N (M / 10) (UInt8.ofNat (48 + M % 10) :: t) := by
  have h1 := h.1
  rw [digs_step h0, List.append_assoc] at h1
  refine ⟨h1, ?_⟩
  have := congrArg List.length h1
  have h2 := digs_len hN
  simp at this
  simp; omega
theorem OfRel.done {N : Nat} {t : List UInt8} (h : OfRel N 0 t) : t = Num.digs N := by
  have := h.1
  rw [show Num.digs 0 = [] from rfl] at this
  simpa using this
theorem cS_of_pos {N : Nat} : (ByteArray.mk (Num.digs N).toArray) = cS (N : Int) := by
  unfold cS Num.canon; rw [if_neg (by omega)]; simp
theorem cS_of_neg {N : Nat} (h : N ≠ 0) : (ByteArray.mk #[45]) ++ (ByteArray.mk (Num.digs N).toArray) = cS (-(N : Int)) := by
  rw [minus_append]; unfold cS Num.canon; rw [if_pos (by omega)]; simp
set_option maxRecDepth 100000 in
set_option maxHeartbeats 1000000 in
theorem rOf_zero (w : World) : Calls Tryz.prog 113 #[.int .i64 0] w fun e w' => e = .returned (.string (cS 0)) ∧ w = w' := by
  go_enter Tryz.func113, Tryz.ntmps113
  go_wp2
  go_ret
  exact ⟨rfl, rfl⟩

set_option maxRecDepth 100000 in
set_option maxHeartbeats 1000000 in
theorem rOf_pos (N : Int) (w : World) (h0 : 0 < N) (h1 : N ≤ 9223372036854775807) :
    Calls Tryz.prog 113 #[.int .i64 N] w fun e w' => e = .returned (.string (cS N)) ∧ w = w' := by
  have hz : (N == 0) = false := by rw [beq_eq_false_iff_ne]; omega
  have hb0 : ¬ N < 0 := by omega
  go_enter Tryz.func113, Tryz.ntmps113
  go_wp2_with fail
  go_loop [3, 4] (fun tv mv => ∃ (m : Int) (t : List UInt8), 0 ≤ m ∧ m ≤ N ∧ mv = .int .i64 m ∧ tv = .string ⟨t.toArray⟩ ∧ OfRel N.toNat m.toNat t) (fun _ mv => (intOf mv).toNat)
  case atStart => exact ⟨N, [], by omega, Int.le_refl _, rfl, rfl, OfRel.start⟩
  case round =>
    obtain ⟨m, t, hm0, hM, rfl, rfl, hr⟩ := hrel
    have htl := hr.2
    have HR := Lib.hid hr
    clear hr
    by_cases hz : m = 0
    · subst hz
      have H := Lib.hid (show (ByteArray.mk t.toArray) = cS N by
        rw [show t = Num.digs N.toNat from HR.out.done, cS_of_pos]
        rw [show ((N.toNat : Nat) : Int) = N by omega])
      clear HR
      go_wp2_with fail
      go_ret
      exact ⟨by rw [← H.out]; rfl, rfl⟩
    · have hb2 : (m != 0) = true := by rw [bne_iff_ne]; omega
      have hs := HR.out.step (by omega) (by omega)
      obtain ⟨d, hd⟩ : ∃ d, d = m.toNat % 10 := ⟨_, rfl⟩
      rw [← hd] at hs
      have hE := enc_digit d (by omega)
      obtain ⟨c, hc⟩ : ∃ c, c = UInt8.ofNat (48 + d) := ⟨_, rfl⟩
      rw [← hc] at hs hE
      obtain ⟨z, hzz⟩ : ∃ z : Int, z = (d : Int) := ⟨_, rfl⟩
      rw [← hzz] at hE
      have hmod : m % 10 = z := by omega
      have hz0 : 0 ≤ z := by omega
      have hz9 : z ≤ 9 := by omega
      have hdiv : m.toNat / 10 = (m / 10).toNat := by omega
      rw [hdiv] at hs
      have HS := Lib.hid hs
      have hmp : 0 < m := by omega
      clear hz hs hd hc hzz hdiv
      have hmq : m.tmod 10 = z := by rw [Int.tmod_eq_emod_of_nonneg hm0]; exact hmod
      go_wp2_with fail
      go_round
      case rel => exact ⟨m / 10, _, by omega, by omega, by go_num, by rw [← one_append]; rfl, HS.out⟩
      case measure => simp [intOf]; omega

set_option maxRecDepth 100000 in
set_option maxHeartbeats 1000000 in
theorem rOf_neg (N : Int) (w : World) (h0 : 0 < N) (h1 : N ≤ 9223372036854775808) :
    Calls Tryz.prog 113 #[.int .i64 (-N)] w fun e w' => e = .returned (.string (cS (-N))) ∧ w = w' := by
  have hz : (-N == 0) = false := by rw [beq_eq_false_iff_ne]; omega
  have hb0 : -N < 0 := by omega
  go_enter Tryz.func113, Tryz.ntmps113
  go_wp2_with fail
  go_loop [3, 4] (fun tv mv => ∃ (m : Int) (t : List UInt8), 0 ≤ m ∧ m ≤ N ∧ mv = .int .i64 (-m) ∧ tv = .string ⟨t.toArray⟩ ∧ OfRel N.toNat m.toNat t) (fun _ mv => (-(intOf mv)).toNat)
  case atStart => exact ⟨N, [], by omega, Int.le_refl _, rfl, rfl, OfRel.start⟩
  case round =>
    obtain ⟨m, t, hm0, hM, rfl, rfl, hr⟩ := hrel
    have htl := hr.2
    have HR := Lib.hid hr
    clear hr
    by_cases hz : m = 0
    · subst hz
      have H := Lib.hid (show (ByteArray.mk #[45]) ++ (ByteArray.mk t.toArray) = cS (-N) by
        rw [show t = Num.digs N.toNat from HR.out.done, cS_of_neg (by omega)]
        rw [show ((N.toNat : Nat) : Int) = N by omega])
      clear HR
      go_wp2_with fail
      go_ret
      exact ⟨by rw [← H.out]; rfl, rfl⟩
    · have hb2 : ((-m) != 0) = true := by rw [bne_iff_ne]; omega
      have hs := HR.out.step (by omega) (by omega)
      obtain ⟨d, hd⟩ : ∃ d, d = m.toNat % 10 := ⟨_, rfl⟩
      rw [← hd] at hs
      have hE := enc_digit d (by omega)
      obtain ⟨c, hc⟩ : ∃ c, c = UInt8.ofNat (48 + d) := ⟨_, rfl⟩
      rw [← hc] at hs hE
      obtain ⟨z, hzz⟩ : ∃ z : Int, z = (d : Int) := ⟨_, rfl⟩
      rw [← hzz] at hE
      have hmod : m % 10 = z := by omega
      have hz0 : 0 ≤ z := by omega
      have hz9 : z ≤ 9 := by omega
      have hdiv : m.toNat / 10 = (m / 10).toNat := by omega
      rw [hdiv] at hs
      have HS := Lib.hid hs
      have hmp : 0 < m := by omega
      clear hz hs hd hc hzz hdiv
      have hmq : (-m).tmod 10 = -z := by rw [Int.neg_tmod, Int.tmod_eq_emod_of_nonneg hm0, hmod]
      have hmd : (-m).tdiv 10 = -(m / 10) := by rw [Int.neg_tdiv, Int.tdiv_eq_ediv_of_nonneg hm0]
      by_cases hzz : z = 0
      · subst hzz
        have hmq0 : (-m).tmod 10 = 0 := by rw [hmq]; rfl
        have hE0 : Utf8.encode 48 = ⟨#[c]⟩ := by rw [← hE]; rfl
        clear hmq hmod hE
        go_wp2_with fail
        go_round
        case rel => exact ⟨m / 10, _, by omega, by omega, by go_num, by rw [← one_append]; rfl, HS.out⟩
        case measure => simp [intOf]; omega
      · have hzn : -z < 0 := by omega
        go_wp2_with fail
        go_round
        case rel => exact ⟨m / 10, _, by omega, by omega, by go_num, by rw [← one_append]; rfl, HS.out⟩
        case measure => simp [intOf]; omega

/-- Of, at every int -/
theorem rOf_any (n : Int) (w : World) (h0 : -9223372036854775808 ≤ n) (h1 : n ≤ 9223372036854775807) :
    Calls Tryz.prog 113 #[.int .i64 n] w fun e w' => e = .returned (.string (cS n)) ∧ w = w' := by
  by_cases hz : n = 0
  · subst hz; exact rOf_zero w
  · by_cases hp : 0 < n
    · exact rOf_pos n w hp h1
    · obtain ⟨m, rfl⟩ : ∃ m, n = -m := ⟨-n, by omega⟩
      exact rOf_neg m w (by omega) (by omega)

end Go.Proofs.YthhihdihkddakaaGreatDoor

/- The order of digits of one length. -/
namespace Go.Proofs.YthhihdihkddakaaGreatDoor
open Go.RowKit

theorem bytesLess_num : ∀ (x y : List UInt8), x.all Num.isDig = true → y.all Num.isDig = true → x.length = y.length → Op.bytesLess x y = decide (Num.num x < Num.num y)
  | [], [], _, _, _ => by simp [Op.bytesLess]
  | [], _ :: _, _, _, h => by simp at h
  | _ :: _, [], _, _, h => by simp at h
  | a :: x, b :: y, hx, hy, h => by
    simp only [List.all_cons, Bool.and_eq_true] at hx hy
    have ha := (Num.isDig_iff a).1 hx.1
    have hb := (Num.isDig_iff b).1 hy.1
    have hl : x.length = y.length := by simpa using h
    have ih := bytesLess_num x y hx.2 hy.2 hl
    have h1 := Num.num_lt x hx.2
    have h2 := Num.num_lt y hy.2
    rw [Num.num_cons, Num.num_cons]
    unfold Op.bytesLess
    rw [ih, Bool.eq_iff_iff]
    simp only [Bool.or_eq_true, Bool.and_eq_true, decide_eq_true_iff, beq_iff_eq]
    rw [hl] at h1 ⊢
    rw [UInt8.lt_iff_toNat_lt]
    generalize 10 ^ y.length = p at *
    unfold Num.dv
    by_cases c1 : a.toNat < b.toNat
    · have := Nat.mul_le_mul_right p (show a.toNat - 48 + 1 ≤ b.toNat - 48 by omega)
      rw [Nat.add_mul] at this
      exact ⟨fun _ => by omega, fun _ => .inl c1⟩
    · by_cases c2 : a = b
      · subst c2; simp
      · have c3 : b.toNat < a.toNat := by
          have : a.toNat ≠ b.toNat := fun e => c2 (UInt8.toNat_inj.1 e)
          omega
        have := Nat.mul_le_mul_right p (show b.toNat - 48 + 1 ≤ a.toNat - 48 by omega)
        rw [Nat.add_mul] at this
        exact ⟨fun h => by rcases h with h | h; omega; exact absurd h.1 c2, fun h => by omega⟩

theorem num_eq_iff : ∀ (x y : List UInt8), x.all Num.isDig = true → y.all Num.isDig = true → x.length = y.length → Num.num x = Num.num y → x = y
  | [], [], _, _, _, _ => rfl
  | [], _ :: _, _, _, h, _ => by simp at h
  | _ :: _, [], _, _, h, _ => by simp at h
  | a :: x, b :: y, hx, hy, h, e => by
    simp only [List.all_cons, Bool.and_eq_true] at hx hy
    have ha := (Num.isDig_iff a).1 hx.1
    have hb := (Num.isDig_iff b).1 hy.1
    have hl : x.length = y.length := by simpa using h
    have h1 := Num.num_lt x hx.2
    have h2 := Num.num_lt y hy.2
    rw [Num.num_cons, Num.num_cons] at e
    have ih := num_eq_iff x y hx.2 hy.2 hl
    rw [hl] at h1 e
    generalize 10 ^ y.length = p at *
    have e1 : a = b := by
      apply UInt8.toNat_inj.1
      unfold Num.dv at e
      by_cases c1 : a.toNat < b.toNat
      · have := Nat.mul_le_mul_right p (show a.toNat - 48 + 1 ≤ b.toNat - 48 by omega)
        rw [Nat.add_mul] at this; omega
      · by_cases c2 : b.toNat < a.toNat
        · have := Nat.mul_le_mul_right p (show b.toNat - 48 + 1 ≤ a.toNat - 48 by omega)
          rw [Nat.add_mul] at this; omega
        · omega
    subst e1
    rw [ih (by omega)]

theorem beq_num {x y : List UInt8} (hx : x.all Num.isDig = true) (hy : y.all Num.isDig = true) (h : x.length = y.length) : (x == y) = decide (Num.num x = Num.num y) := by
  rw [Bool.eq_iff_iff, beq_iff_eq, decide_eq_true_iff]
  exact ⟨fun e => by rw [e], num_eq_iff x y hx hy h⟩

end Go.Proofs.YthhihdihkddakaaGreatDoor

/- The reference implementation of layer 1: Small: the walk. -/
namespace Go.Proofs.YthhihdihkddakaaGreatDoor
open Go.RowKit

/-- the greatest text of an absolute value that fits -/
def most (ng : Bool) : ByteArray := if ng then ⟨#[57, 50, 50, 51, 51, 55, 50, 48, 51, 54, 56, 53, 52, 55, 55, 53, 56, 48, 56]⟩ else ⟨#[57, 50, 50, 51, 51, 55, 50, 48, 51, 54, 56, 53, 52, 55, 55, 53, 56, 48, 55]⟩
def mostN (ng : Bool) : Nat := if ng then 9223372036854775808 else 9223372036854775807
theorem most_num (ng : Bool) : Num.num (most ng).data.toList = mostN ng := by cases ng <;> decide +kernel
theorem most_all (ng : Bool) : (most ng).data.toList.all Num.isDig = true := by cases ng <;> decide +kernel
theorem most_len (ng : Bool) : (most ng).data.toList.length = 19 := by cases ng <;> rfl

theorem fits_iff {s : ByteArray} {ng : Bool} (h : Num.sneg s.data.toList = ng) : fits (vS s) = decide (Num.num (Num.sdig s.data.toList) ≤ mostN ng) := by
  unfold fits
  rw [Bool.eq_iff_iff, decide_eq_true_iff, decide_eq_true_iff]
  cases ng
  · have := vS_pos h; unfold mostN; simp; omega
  · have := vS_neg h; unfold mostN; simp; omega

/-- more than 19 digits are more than fits -/
theorem plain_ge {d : List UInt8} (hp : Num.Plain d) {k : Nat} (h : k < d.length) : 10 ^ k ≤ Num.num d := by
  cases d with
  | nil => simp at h
  | cons c r =>
    have hc := hp.1
    simp only [List.all_cons, Bool.and_eq_true] at hc
    have h2 := Num.num_ge c r hc.1 (by have := hp.2; simpa using this)
    have := Nat.pow_le_pow_right (show 1 ≤ 10 by decide) (show k ≤ r.length by simp at h; omega)
    omega

/-- what Small returns -/
def SmallPost (w : World) (z : Int) (e : Ending) (w' : World) : Prop := e = .returned (if fits z then .tuple #[.int .i64 z, .bool true] else .tuple #[.int .i64 0, .bool false]) ∧ w = w'
theorem small_some {w : World} {z : Int} (h : fits z = true) : SmallPost w z (.returned (.tuple #[.int .i64 z, .bool true])) w := by unfold SmallPost; rw [h]; exact ⟨rfl, rfl⟩
theorem small_none {w : World} {z : Int} (h : fits z = false) : SmallPost w z (.returned (.tuple #[.int .i64 0, .bool false])) w := by unfold SmallPost; rw [h]; exact ⟨rfl, rfl⟩

set_option maxRecDepth 100000 in
set_option maxHeartbeats 1000000 in
theorem rSmall_false (s : ByteArray) (w : World) (hs : s.size ≤ 4294967296) (hng : Num.sneg s.data.toList = false) :
    Calls Tryz.prog 55 #[.string s] w (SmallPost w (vS s)) := by
  have hm := lim_max hs
  have hfit := fits_iff hng
  have hp := Num.Plain.sdig s.data.toList
  obtain ⟨D, hD, hDl, hall, hDs⟩ := dig_str s
  rw [← hDl] at hfit hp
  have HV := Lib.hid (show vS s = (Num.num D.data.toList : Int) by rw [hDl]; exact (vS_pos hng).1)
  have HD := Lib.hid hD
  have HA := Lib.hid hall
  have HF := Lib.hid hfit
  have HNG := Lib.hid hng
  clear hD hall hDl hfit hng
  by_cases h19 : 19 < D.size
  · have hbig : fits (vS s) = false := by
      rw [HF.out, decide_eq_false_iff_not]
      have := plain_ge hp (show 19 < D.data.toList.length by rw [size_toList]; exact h19)
      unfold mostN; simp; omega
    have H := Lib.hid (small_none (w := w) hbig)
    clear hbig hp
    go_enter Tryz.func55, Tryz.ntmps55
    go_wp2_with fail
    refine (digits_any s w hm).mono ?_
    rintro e w' ⟨rfl, rfl⟩
    rw [← HD.out, HNG.out]
    go_wp2_with fail
    go_ret2
    exact H.out
  · by_cases hfits : Num.num D.data.toList ≤ mostN false
    · have hyes : fits (vS s) = true := by rw [HF.out]; exact decide_eq_true hfits
      have H := Lib.hid (small_some (w := w) hyes)
      clear hyes hp
      have h9 : (D.size : Int) < 19 ∨ (((D.size : Int) == 19) = true ∧ D.size = 19) := by
        by_cases h : D.size = 19
        · exact .inr ⟨by rw [h]; rfl, h⟩
        · exact .inl (by omega)
      have hcases : (((D.size : Int) == 19) = false) ∨ ((((D.size : Int) == 19) = true) ∧ Op.bytesLess D.toList [57, 50, 50, 51, 51, 55, 50, 48, 51, 54, 56, 53, 52, 55, 55, 53, 56, 48, 55] = true) ∨ ((((D.size : Int) == 19) = true) ∧ Op.bytesLess D.toList [57, 50, 50, 51, 51, 55, 50, 48, 51, 54, 56, 53, 52, 55, 55, 53, 56, 48, 55] = false ∧ (D.toList == [57, 50, 50, 51, 51, 55, 50, 48, 51, 54, 56, 53, 52, 55, 55, 53, 56, 48, 55]) = true) := by
        rcases h9 with h | ⟨h, h'⟩
        · left; rw [beq_eq_false_iff_ne]; omega
        · right
          have e1 := bytesLess_num _ _ HA.out (most_all false) (by rw [most_len, size_toList, h'])
          have e2 := beq_num HA.out (most_all false) (by rw [most_len, size_toList, h'])
          rw [most_num] at e1 e2
          rw [Lib.toList_data]
          by_cases hq : Num.num D.data.toList < mostN false
          · exact .inl ⟨h, by rw [decide_eq_true hq] at e1; exact e1⟩
          · exact .inr ⟨h, by rw [decide_eq_false hq] at e1; exact e1, by rw [decide_eq_true (by omega)] at e2; exact e2⟩
      clear h9
      have HFT := Lib.hid hfits
      clear hfits
      rcases hcases with hc | ⟨hc, hc2⟩ | ⟨hc, hc2, hc3⟩
      · go_enter Tryz.func55, Tryz.ntmps55
        go_wp2_with fail
        refine (digits_any s w hm).mono ?_
        rintro e w' ⟨rfl, rfl⟩
        rw [← HD.out, HNG.out]
        go_wp2_with fail
        clear hc
        go_loop [7, 8] (fun nv iv => ∃ k : Nat, k ≤ D.size ∧ iv = .int .i64 k ∧ nv = .int .i64 (-((Num.num (D.data.toList.take k) : Nat) : Int))) (fun _ iv => D.size - (intOf iv).toNat)
        case atStart => exact ⟨0, Nat.zero_le _, rfl, rfl⟩
        case round =>
          obtain ⟨k, hk, rfl, rfl⟩ := hrel
          have hmx : mostN false ≤ 9223372036854775808 := by unfold mostN; simp
          have hb := num_take_le D.data.toList k
          obtain ⟨x, hx⟩ : ∃ x, x = Num.num (D.data.toList.take k) := ⟨_, rfl⟩
          rw [← hx] at hb ⊢
          by_cases hlt : k < D.size
          · have hd := dig_at hlt HA.out
            have hsu := num_take_succ hlt
            have hb3 := num_take_le D.data.toList (k + 1)
            rw [← hx] at hsu
            have hb4 : 10 * x + (((D[k]'hlt).toNat) - 48) ≤ 9223372036854775808 := by have := HFT.out; rw [hsu] at hb3; unfold Num.dv at hb3; omega
            have hn : -((Num.num (D.data.toList.take (k + 1)) : Nat) : Int) = 10 * (-(x : Int)) - (((D[k]'hlt).toNat : Int) - 48) := by rw [hsu]; unfold Num.dv; omega
            have HN := Lib.hid hn
            have hd1 : (48 : Int) ≤ ((D[k]'hlt).toNat : Int) := by omega
            have hd2 : ((D[k]'hlt).toNat : Int) ≤ 57 := by omega
            have hb5 : (x : Int) ≤ 922337203685477580 := by omega
            have hb6 : -9223372036854775808 ≤ 10 * (-(x : Int)) - (((D[k]'hlt).toNat : Int) - 48) := by omega
            clear hn hsu hx hd hb hb3 hb4 hmx
            go_wp2_with fail
            go_round
            case rel => exact ⟨k + 1, by omega, by go_num, by rw [HN.out]⟩
            case measure => simp [intOf]; omega
          · have hx2 : x = Num.num D.data.toList := by rw [hx, List.take_of_length_le (by rw [size_toList]; omega)]
            have hxm : x ≤ 9223372036854775807 := by have := HFT.out; unfold mostN at this; simp at this; omega
            have HX := Lib.hid (show vS s = (x : Int) by rw [HV.out, hx2])
            clear hx hx2 hb hmx
            go_wp2_with fail
            go_ret2
            have := H.out
            rw [HX.out] at this ⊢
            exact this
      · go_enter Tryz.func55, Tryz.ntmps55
        go_wp2_with fail
        refine (digits_any s w hm).mono ?_
        rintro e w' ⟨rfl, rfl⟩
        rw [← HD.out, HNG.out]
        go_wp2_with fail
        clear hc hc2
        go_loop [7, 8] (fun nv iv => ∃ k : Nat, k ≤ D.size ∧ iv = .int .i64 k ∧ nv = .int .i64 (-((Num.num (D.data.toList.take k) : Nat) : Int))) (fun _ iv => D.size - (intOf iv).toNat)
        case atStart => exact ⟨0, Nat.zero_le _, rfl, rfl⟩
        case round =>
          obtain ⟨k, hk, rfl, rfl⟩ := hrel
          have hmx : mostN false ≤ 9223372036854775808 := by unfold mostN; simp
          have hb := num_take_le D.data.toList k
          obtain ⟨x, hx⟩ : ∃ x, x = Num.num (D.data.toList.take k) := ⟨_, rfl⟩
          rw [← hx] at hb ⊢
          by_cases hlt : k < D.size
          · have hd := dig_at hlt HA.out
            have hsu := num_take_succ hlt
            have hb3 := num_take_le D.data.toList (k + 1)
            rw [← hx] at hsu
            have hb4 : 10 * x + (((D[k]'hlt).toNat) - 48) ≤ 9223372036854775808 := by have := HFT.out; rw [hsu] at hb3; unfold Num.dv at hb3; omega
            have hn : -((Num.num (D.data.toList.take (k + 1)) : Nat) : Int) = 10 * (-(x : Int)) - (((D[k]'hlt).toNat : Int) - 48) := by rw [hsu]; unfold Num.dv; omega
            have HN := Lib.hid hn
            have hd1 : (48 : Int) ≤ ((D[k]'hlt).toNat : Int) := by omega
            have hd2 : ((D[k]'hlt).toNat : Int) ≤ 57 := by omega
            have hb5 : (x : Int) ≤ 922337203685477580 := by omega
            have hb6 : -9223372036854775808 ≤ 10 * (-(x : Int)) - (((D[k]'hlt).toNat : Int) - 48) := by omega
            clear hn hsu hx hd hb hb3 hb4 hmx
            go_wp2_with fail
            go_round
            case rel => exact ⟨k + 1, by omega, by go_num, by rw [HN.out]⟩
            case measure => simp [intOf]; omega
          · have hx2 : x = Num.num D.data.toList := by rw [hx, List.take_of_length_le (by rw [size_toList]; omega)]
            have hxm : x ≤ 9223372036854775807 := by have := HFT.out; unfold mostN at this; simp at this; omega
            have HX := Lib.hid (show vS s = (x : Int) by rw [HV.out, hx2])
            clear hx hx2 hb hmx
            go_wp2_with fail
            go_ret2
            have := H.out
            rw [HX.out] at this ⊢
            exact this
      · go_enter Tryz.func55, Tryz.ntmps55
        go_wp2_with fail
        refine (digits_any s w hm).mono ?_
        rintro e w' ⟨rfl, rfl⟩
        rw [← HD.out, HNG.out]
        go_wp2_with fail
        clear hc hc2 hc3
        go_loop [7, 8] (fun nv iv => ∃ k : Nat, k ≤ D.size ∧ iv = .int .i64 k ∧ nv = .int .i64 (-((Num.num (D.data.toList.take k) : Nat) : Int))) (fun _ iv => D.size - (intOf iv).toNat)
        case atStart => exact ⟨0, Nat.zero_le _, rfl, rfl⟩
        case round =>
          obtain ⟨k, hk, rfl, rfl⟩ := hrel
          have hmx : mostN false ≤ 9223372036854775808 := by unfold mostN; simp
          have hb := num_take_le D.data.toList k
          obtain ⟨x, hx⟩ : ∃ x, x = Num.num (D.data.toList.take k) := ⟨_, rfl⟩
          rw [← hx] at hb ⊢
          by_cases hlt : k < D.size
          · have hd := dig_at hlt HA.out
            have hsu := num_take_succ hlt
            have hb3 := num_take_le D.data.toList (k + 1)
            rw [← hx] at hsu
            have hb4 : 10 * x + (((D[k]'hlt).toNat) - 48) ≤ 9223372036854775808 := by have := HFT.out; rw [hsu] at hb3; unfold Num.dv at hb3; omega
            have hn : -((Num.num (D.data.toList.take (k + 1)) : Nat) : Int) = 10 * (-(x : Int)) - (((D[k]'hlt).toNat : Int) - 48) := by rw [hsu]; unfold Num.dv; omega
            have HN := Lib.hid hn
            have hd1 : (48 : Int) ≤ ((D[k]'hlt).toNat : Int) := by omega
            have hd2 : ((D[k]'hlt).toNat : Int) ≤ 57 := by omega
            have hb5 : (x : Int) ≤ 922337203685477580 := by omega
            have hb6 : -9223372036854775808 ≤ 10 * (-(x : Int)) - (((D[k]'hlt).toNat : Int) - 48) := by omega
            clear hn hsu hx hd hb hb3 hb4 hmx
            go_wp2_with fail
            go_round
            case rel => exact ⟨k + 1, by omega, by go_num, by rw [HN.out]⟩
            case measure => simp [intOf]; omega
          · have hx2 : x = Num.num D.data.toList := by rw [hx, List.take_of_length_le (by rw [size_toList]; omega)]
            have hxm : x ≤ 9223372036854775807 := by have := HFT.out; unfold mostN at this; simp at this; omega
            have HX := Lib.hid (show vS s = (x : Int) by rw [HV.out, hx2])
            clear hx hx2 hb hmx
            go_wp2_with fail
            go_ret2
            have := H.out
            rw [HX.out] at this ⊢
            exact this
    · have hno : fits (vS s) = false := by rw [HF.out]; exact decide_eq_false hfits
      have H := Lib.hid (small_none (w := w) hno)
      have h19' : D.size = 19 := by
        have h1 := Num.num_lt _ HA.out
        rw [size_toList] at h1
        by_cases h : D.size = 19
        · exact h
        · have h2 := Nat.pow_le_pow_right (show 1 ≤ 10 by decide) (show D.size ≤ 18 by omega)
          unfold mostN at hfits
          simp at hfits
          omega
      have hc : ((D.size : Int) == 19) = true := by rw [h19']; rfl
      have e1 := bytesLess_num _ _ HA.out (most_all false) (by rw [most_len, size_toList, h19'])
      have e2 := beq_num HA.out (most_all false) (by rw [most_len, size_toList, h19'])
      rw [most_num] at e1 e2
      have hc2 : Op.bytesLess D.toList [57, 50, 50, 51, 51, 55, 50, 48, 51, 54, 56, 53, 52, 55, 55, 53, 56, 48, 55] = false := by rw [Lib.toList_data]; rw [decide_eq_false (by omega)] at e1; exact e1
      have hc3 : (D.toList == [57, 50, 50, 51, 51, 55, 50, 48, 51, 54, 56, 53, 52, 55, 55, 53, 56, 48, 55]) = false := by rw [Lib.toList_data]; rw [decide_eq_false (by omega)] at e2; exact e2
      clear e1 e2
      clear hno hp h19' hfits
      go_enter Tryz.func55, Tryz.ntmps55
      go_wp2_with fail
      refine (digits_any s w hm).mono ?_
      rintro e w' ⟨rfl, rfl⟩
      rw [← HD.out, HNG.out]
      go_wp2_with fail
      go_ret2
      exact H.out

set_option maxRecDepth 100000 in
set_option maxHeartbeats 1000000 in
theorem rSmall_true (s : ByteArray) (w : World) (hs : s.size ≤ 4294967296) (hng : Num.sneg s.data.toList = true) :
    Calls Tryz.prog 55 #[.string s] w (SmallPost w (vS s)) := by
  have hm := lim_max hs
  have hfit := fits_iff hng
  have hp := Num.Plain.sdig s.data.toList
  obtain ⟨D, hD, hDl, hall, hDs⟩ := dig_str s
  rw [← hDl] at hfit hp
  have HV := Lib.hid (show vS s = -(Num.num D.data.toList : Int) by rw [hDl]; exact (vS_neg hng).1)
  have HD := Lib.hid hD
  have HA := Lib.hid hall
  have HF := Lib.hid hfit
  have HNG := Lib.hid hng
  clear hD hall hDl hfit hng
  by_cases h19 : 19 < D.size
  · have hbig : fits (vS s) = false := by
      rw [HF.out, decide_eq_false_iff_not]
      have := plain_ge hp (show 19 < D.data.toList.length by rw [size_toList]; exact h19)
      unfold mostN; simp; omega
    have H := Lib.hid (small_none (w := w) hbig)
    clear hbig hp
    go_enter Tryz.func55, Tryz.ntmps55
    go_wp2_with fail
    refine (digits_any s w hm).mono ?_
    rintro e w' ⟨rfl, rfl⟩
    rw [← HD.out, HNG.out]
    go_wp2_with fail
    go_ret2
    exact H.out
  · by_cases hfits : Num.num D.data.toList ≤ mostN true
    · have hyes : fits (vS s) = true := by rw [HF.out]; exact decide_eq_true hfits
      have H := Lib.hid (small_some (w := w) hyes)
      clear hyes hp
      have h9 : (D.size : Int) < 19 ∨ (((D.size : Int) == 19) = true ∧ D.size = 19) := by
        by_cases h : D.size = 19
        · exact .inr ⟨by rw [h]; rfl, h⟩
        · exact .inl (by omega)
      have hcases : (((D.size : Int) == 19) = false) ∨ ((((D.size : Int) == 19) = true) ∧ Op.bytesLess D.toList [57, 50, 50, 51, 51, 55, 50, 48, 51, 54, 56, 53, 52, 55, 55, 53, 56, 48, 56] = true) ∨ ((((D.size : Int) == 19) = true) ∧ Op.bytesLess D.toList [57, 50, 50, 51, 51, 55, 50, 48, 51, 54, 56, 53, 52, 55, 55, 53, 56, 48, 56] = false ∧ (D.toList == [57, 50, 50, 51, 51, 55, 50, 48, 51, 54, 56, 53, 52, 55, 55, 53, 56, 48, 56]) = true) := by
        rcases h9 with h | ⟨h, h'⟩
        · left; rw [beq_eq_false_iff_ne]; omega
        · right
          have e1 := bytesLess_num _ _ HA.out (most_all true) (by rw [most_len, size_toList, h'])
          have e2 := beq_num HA.out (most_all true) (by rw [most_len, size_toList, h'])
          rw [most_num] at e1 e2
          rw [Lib.toList_data]
          by_cases hq : Num.num D.data.toList < mostN true
          · exact .inl ⟨h, by rw [decide_eq_true hq] at e1; exact e1⟩
          · exact .inr ⟨h, by rw [decide_eq_false hq] at e1; exact e1, by rw [decide_eq_true (by omega)] at e2; exact e2⟩
      clear h9
      have HFT := Lib.hid hfits
      clear hfits
      rcases hcases with hc | ⟨hc, hc2⟩ | ⟨hc, hc2, hc3⟩
      · go_enter Tryz.func55, Tryz.ntmps55
        go_wp2_with fail
        refine (digits_any s w hm).mono ?_
        rintro e w' ⟨rfl, rfl⟩
        rw [← HD.out, HNG.out]
        go_wp2_with fail
        clear hc
        go_loop [7, 8] (fun nv iv => ∃ k : Nat, k ≤ D.size ∧ iv = .int .i64 k ∧ nv = .int .i64 (-((Num.num (D.data.toList.take k) : Nat) : Int))) (fun _ iv => D.size - (intOf iv).toNat)
        case atStart => exact ⟨0, Nat.zero_le _, rfl, rfl⟩
        case round =>
          obtain ⟨k, hk, rfl, rfl⟩ := hrel
          have hmx : mostN true ≤ 9223372036854775808 := by unfold mostN; simp
          have hb := num_take_le D.data.toList k
          obtain ⟨x, hx⟩ : ∃ x, x = Num.num (D.data.toList.take k) := ⟨_, rfl⟩
          rw [← hx] at hb ⊢
          by_cases hlt : k < D.size
          · have hd := dig_at hlt HA.out
            have hsu := num_take_succ hlt
            have hb3 := num_take_le D.data.toList (k + 1)
            rw [← hx] at hsu
            have hb4 : 10 * x + (((D[k]'hlt).toNat) - 48) ≤ 9223372036854775808 := by have := HFT.out; rw [hsu] at hb3; unfold Num.dv at hb3; omega
            have hn : -((Num.num (D.data.toList.take (k + 1)) : Nat) : Int) = 10 * (-(x : Int)) - (((D[k]'hlt).toNat : Int) - 48) := by rw [hsu]; unfold Num.dv; omega
            have HN := Lib.hid hn
            have hd1 : (48 : Int) ≤ ((D[k]'hlt).toNat : Int) := by omega
            have hd2 : ((D[k]'hlt).toNat : Int) ≤ 57 := by omega
            have hb5 : (x : Int) ≤ 922337203685477580 := by omega
            have hb6 : -9223372036854775808 ≤ 10 * (-(x : Int)) - (((D[k]'hlt).toNat : Int) - 48) := by omega
            clear hn hsu hx hd hb hb3 hb4 hmx
            go_wp2_with fail
            go_round
            case rel => exact ⟨k + 1, by omega, by go_num, by rw [HN.out]⟩
            case measure => simp [intOf]; omega
          · have hx2 : x = Num.num D.data.toList := by rw [hx, List.take_of_length_le (by rw [size_toList]; omega)]
            have hxm : x ≤ 9223372036854775808 := by have := HFT.out; unfold mostN at this; simp at this; omega
            have HX := Lib.hid (show vS s = -(x : Int) by rw [HV.out, hx2])
            clear hx hx2 hb hmx
            go_wp2_with fail
            go_ret2
            have := H.out
            rw [HX.out] at this ⊢
            exact this
      · go_enter Tryz.func55, Tryz.ntmps55
        go_wp2_with fail
        refine (digits_any s w hm).mono ?_
        rintro e w' ⟨rfl, rfl⟩
        rw [← HD.out, HNG.out]
        go_wp2_with fail
        clear hc hc2
        go_loop [7, 8] (fun nv iv => ∃ k : Nat, k ≤ D.size ∧ iv = .int .i64 k ∧ nv = .int .i64 (-((Num.num (D.data.toList.take k) : Nat) : Int))) (fun _ iv => D.size - (intOf iv).toNat)
        case atStart => exact ⟨0, Nat.zero_le _, rfl, rfl⟩
        case round =>
          obtain ⟨k, hk, rfl, rfl⟩ := hrel
          have hmx : mostN true ≤ 9223372036854775808 := by unfold mostN; simp
          have hb := num_take_le D.data.toList k
          obtain ⟨x, hx⟩ : ∃ x, x = Num.num (D.data.toList.take k) := ⟨_, rfl⟩
          rw [← hx] at hb ⊢
          by_cases hlt : k < D.size
          · have hd := dig_at hlt HA.out
            have hsu := num_take_succ hlt
            have hb3 := num_take_le D.data.toList (k + 1)
            rw [← hx] at hsu
            have hb4 : 10 * x + (((D[k]'hlt).toNat) - 48) ≤ 9223372036854775808 := by have := HFT.out; rw [hsu] at hb3; unfold Num.dv at hb3; omega
            have hn : -((Num.num (D.data.toList.take (k + 1)) : Nat) : Int) = 10 * (-(x : Int)) - (((D[k]'hlt).toNat : Int) - 48) := by rw [hsu]; unfold Num.dv; omega
            have HN := Lib.hid hn
            have hd1 : (48 : Int) ≤ ((D[k]'hlt).toNat : Int) := by omega
            have hd2 : ((D[k]'hlt).toNat : Int) ≤ 57 := by omega
            have hb5 : (x : Int) ≤ 922337203685477580 := by omega
            have hb6 : -9223372036854775808 ≤ 10 * (-(x : Int)) - (((D[k]'hlt).toNat : Int) - 48) := by omega
            clear hn hsu hx hd hb hb3 hb4 hmx
            go_wp2_with fail
            go_round
            case rel => exact ⟨k + 1, by omega, by go_num, by rw [HN.out]⟩
            case measure => simp [intOf]; omega
          · have hx2 : x = Num.num D.data.toList := by rw [hx, List.take_of_length_le (by rw [size_toList]; omega)]
            have hxm : x ≤ 9223372036854775808 := by have := HFT.out; unfold mostN at this; simp at this; omega
            have HX := Lib.hid (show vS s = -(x : Int) by rw [HV.out, hx2])
            clear hx hx2 hb hmx
            go_wp2_with fail
            go_ret2
            have := H.out
            rw [HX.out] at this ⊢
            exact this
      · go_enter Tryz.func55, Tryz.ntmps55
        go_wp2_with fail
        refine (digits_any s w hm).mono ?_
        rintro e w' ⟨rfl, rfl⟩
        rw [← HD.out, HNG.out]
        go_wp2_with fail
        clear hc hc2 hc3
        go_loop [7, 8] (fun nv iv => ∃ k : Nat, k ≤ D.size ∧ iv = .int .i64 k ∧ nv = .int .i64 (-((Num.num (D.data.toList.take k) : Nat) : Int))) (fun _ iv => D.size - (intOf iv).toNat)
        case atStart => exact ⟨0, Nat.zero_le _, rfl, rfl⟩
        case round =>
          obtain ⟨k, hk, rfl, rfl⟩ := hrel
          have hmx : mostN true ≤ 9223372036854775808 := by unfold mostN; simp
          have hb := num_take_le D.data.toList k
          obtain ⟨x, hx⟩ : ∃ x, x = Num.num (D.data.toList.take k) := ⟨_, rfl⟩
          rw [← hx] at hb ⊢
          by_cases hlt : k < D.size
          · have hd := dig_at hlt HA.out
            have hsu := num_take_succ hlt
            have hb3 := num_take_le D.data.toList (k + 1)
            rw [← hx] at hsu
            have hb4 : 10 * x + (((D[k]'hlt).toNat) - 48) ≤ 9223372036854775808 := by have := HFT.out; rw [hsu] at hb3; unfold Num.dv at hb3; omega
            have hn : -((Num.num (D.data.toList.take (k + 1)) : Nat) : Int) = 10 * (-(x : Int)) - (((D[k]'hlt).toNat : Int) - 48) := by rw [hsu]; unfold Num.dv; omega
            have HN := Lib.hid hn
            have hd1 : (48 : Int) ≤ ((D[k]'hlt).toNat : Int) := by omega
            have hd2 : ((D[k]'hlt).toNat : Int) ≤ 57 := by omega
            have hb5 : (x : Int) ≤ 922337203685477580 := by omega
            have hb6 : -9223372036854775808 ≤ 10 * (-(x : Int)) - (((D[k]'hlt).toNat : Int) - 48) := by omega
            clear hn hsu hx hd hb hb3 hb4 hmx
            go_wp2_with fail
            go_round
            case rel => exact ⟨k + 1, by omega, by go_num, by rw [HN.out]⟩
            case measure => simp [intOf]; omega
          · have hx2 : x = Num.num D.data.toList := by rw [hx, List.take_of_length_le (by rw [size_toList]; omega)]
            have hxm : x ≤ 9223372036854775808 := by have := HFT.out; unfold mostN at this; simp at this; omega
            have HX := Lib.hid (show vS s = -(x : Int) by rw [HV.out, hx2])
            clear hx hx2 hb hmx
            go_wp2_with fail
            go_ret2
            have := H.out
            rw [HX.out] at this ⊢
            exact this
    · have hno : fits (vS s) = false := by rw [HF.out]; exact decide_eq_false hfits
      have H := Lib.hid (small_none (w := w) hno)
      have h19' : D.size = 19 := by
        have h1 := Num.num_lt _ HA.out
        rw [size_toList] at h1
        by_cases h : D.size = 19
        · exact h
        · have h2 := Nat.pow_le_pow_right (show 1 ≤ 10 by decide) (show D.size ≤ 18 by omega)
          unfold mostN at hfits
          simp at hfits
          omega
      have hc : ((D.size : Int) == 19) = true := by rw [h19']; rfl
      have e1 := bytesLess_num _ _ HA.out (most_all true) (by rw [most_len, size_toList, h19'])
      have e2 := beq_num HA.out (most_all true) (by rw [most_len, size_toList, h19'])
      rw [most_num] at e1 e2
      have hc2 : Op.bytesLess D.toList [57, 50, 50, 51, 51, 55, 50, 48, 51, 54, 56, 53, 52, 55, 55, 53, 56, 48, 56] = false := by rw [Lib.toList_data]; rw [decide_eq_false (by omega)] at e1; exact e1
      have hc3 : (D.toList == [57, 50, 50, 51, 51, 55, 50, 48, 51, 54, 56, 53, 52, 55, 55, 53, 56, 48, 56]) = false := by rw [Lib.toList_data]; rw [decide_eq_false (by omega)] at e2; exact e2
      clear e1 e2
      clear hno hp h19' hfits
      go_enter Tryz.func55, Tryz.ntmps55
      go_wp2_with fail
      refine (digits_any s w hm).mono ?_
      rintro e w' ⟨rfl, rfl⟩
      rw [← HD.out, HNG.out]
      go_wp2_with fail
      go_ret2
      exact H.out

theorem rSmall_any (s : ByteArray) (w : World) (hs : s.size ≤ 4294967296) :
    Calls Tryz.prog 55 #[.string s] w (SmallPost w (vS s)) := by
  cases h : Num.sneg s.data.toList
  · exact rSmall_false s w hs h
  · exact rSmall_true s w hs h


end Go.Proofs.YthhihdihkddakaaGreatDoor

/- The reference implementation of layer 1: trim, group, order: walks. Slices may be nil or empty. -/
namespace Go.Proofs.YthhihdihkddakaaGreatDoor
open Go.RowKit

/-- the numbers zs lie in block b from place o on: they can be read -/
structure Sr (w : World) (b o cap : Nat) (zs : List Int) : Prop where
  lt : b < w.heap.size
  le : zs.length ≤ cap
  max : cap ≤ 9223372036854775807
  lim : zs.length ≤ 1000000
  cell : ∀ i, i < zs.length → w.cell? ⟨b, o + i, none⟩ = some (.int .i64 (zs.getD i 0))

theorem Sr.below {B : Nat} {w w' : World} {b o cap : Nat} {zs : List Int} (h : Sr w b o cap zs) (hb : Below B w w') (hlt : b < B) : Sr w' b o cap zs :=
  ⟨Nat.lt_of_lt_of_le h.lt hb.size, h.le, h.max, h.lim, fun i hi => (hb.cell (p := ⟨b, o + i, none⟩) hlt).trans (h.cell i hi)⟩
theorem Sr.take {w : World} {b o cap : Nat} {zs : List Int} (h : Sr w b o cap zs) (ys : List Int) (hp : ys <+: zs) : Sr w b o cap ys :=
  ⟨h.lt, Nat.le_trans hp.length_le h.le, h.max, Nat.le_trans hp.length_le h.lim, fun i hi => by rw [h.cell i (Nat.lt_of_lt_of_le hi hp.length_le), prefix_getD hp hi]⟩
theorem Sl.sr {w : World} {b o cap : Nat} {zs : List Int} (h : Sl w b o cap zs) (hl : zs.length ≤ 1000000) : Sr w b o cap zs := ⟨h.lt, h.le, Nat.le_trans h.max (by decide), hl, h.cell⟩

/-- a slice with the address xa reads as the numbers zs; nothing is known of the address of an empty one -/
structure Rd (w : World) (xa : Option Addr) (cap : Nat) (zs : List Int) : Prop where
  lim : zs.length ≤ 1000000
  sl : 0 < zs.length → ∃ b o, xa = some ⟨b, o, none⟩ ∧ Sr w b o cap zs

theorem Rd.nil (w : World) (xa : Option Addr) (cap : Nat) : Rd w xa cap [] := ⟨by simp, fun h => by simp at h⟩
theorem Rd.below {w w' : World} {xa : Option Addr} {cap : Nat} {zs : List Int} (h : Rd w xa cap zs) (hb : Below w.heap.size w w') : Rd w' xa cap zs :=
  ⟨h.lim, fun h0 => by obtain ⟨b, o, e, hs⟩ := h.sl h0; exact ⟨b, o, e, hs.below hb hs.lt⟩⟩
theorem Rd.belowAt {B : Nat} {w w' : World} {xa : Option Addr} {cap : Nat} {zs : List Int} (h : Rd w xa cap zs) (hb : Below B w w') (hB : w.heap.size ≤ B) : Rd w' xa cap zs := h.below (hb.mono hB)
theorem Rd.drewN {w : World} {xa : Option Addr} {cap : Nat} {zs : List Int} (h : Rd w xa cap zs) (n : Nat) : Rd (w.drewN n) xa cap zs :=
  ⟨h.lim, fun h0 => by obtain ⟨b, o, e, hs⟩ := h.sl h0; exact ⟨b, o, e, ⟨hs.lt, hs.le, hs.max, hs.lim, hs.cell⟩⟩⟩
theorem Rd.setOther {w : World} {xa : Option Addr} {cap : Nat} {zs : List Int} (h : Rd w xa cap zs) {a : Addr} (hne : ∀ b o, xa = some ⟨b, o, none⟩ → b ≠ a.block) (v : Value) : Rd (w.setCell a v) xa cap zs :=
  ⟨h.lim, fun h0 => by
    obtain ⟨b, o, e, hs⟩ := h.sl h0
    exact ⟨b, o, e, by simpa [World.setCell] using hs.lt, hs.le, hs.max, hs.lim, fun i hi => (World.cell?_of_block (w := w) (a := ⟨b, o + i, none⟩) (Below.heap_setCell w a v b (hne b o e))).trans (hs.cell i hi)⟩⟩
theorem Rd.prefix {w : World} {xa : Option Addr} {cap : Nat} {zs : List Int} (h : Rd w xa cap zs) {ys : List Int} (hp : ys <+: zs) : Rd w xa cap ys :=
  ⟨Nat.le_trans hp.length_le h.lim, fun h0 => by obtain ⟨b, o, e, hs⟩ := h.sl (Nat.lt_of_lt_of_le h0 hp.length_le); exact ⟨b, o, e, hs.take ys hp⟩⟩

set_option maxHeartbeats 1000000 in
theorem rTrim_sl (w : World) (b o cap n : Nat) (zs : List Int) (hn : zs.length = n) (hz : Sr w b o cap zs) :
    Calls Tryz.prog 157 #[.slice (some ⟨b, o, none⟩) n cap] w
      fun e w' => e = .returned (.slice (some ⟨b, o, none⟩) (Num.trimmed zs).length cap) ∧ w = w' := by
  have hnc : n ≤ cap := by have := hz.le; omega
  have hmx := hz.max
  have HN := Lib.hid hn
  clear hn
  go_enter Tryz.func157, Tryz.ntmps157
  go_wp2
  go_loop [0] (fun v => ∃ k : Nat, k ≤ n ∧ v = .slice (some ⟨b, o, none⟩) k cap ∧ Num.trimmed (zs.take k) = Num.trimmed zs) (fun v => lenOf v)
  case atStart => exact ⟨n, Nat.le_refl _, rfl, by rw [List.take_of_length_le (by have := HN.out; omega)]⟩
  case round =>
    obtain ⟨k, hk, rfl, ht⟩ := hrel
    have HT := Lib.hid ht
    clear ht
    by_cases h0 : 0 < k
    · obtain ⟨j, rfl⟩ : ∃ j, k = j + 1 := ⟨k - 1, by omega⟩
      obtain ⟨x, hx⟩ : ∃ x, x = zs.getD j 0 := ⟨_, rfl⟩
      have hc : w.cell? ⟨b, o + j, none⟩ = some (.int .i64 x) := by rw [hx]; exact hz.cell j (by have := HN.out; omega)
      have HX := Lib.hid hx
      clear hx
      by_cases hx0 : x = 0
      · have hb : (x == 0) = true := by simpa using hx0
        have ht : Num.trimmed (zs.take j) = Num.trimmed zs := by
          rw [← HT.out, take_succ_getD (by have := HN.out; omega), ← HX.out, hx0, Num.trimmed_snoc_zero]
        have H := Lib.hid ht
        clear ht hx0
        go_wp2
        go_round
        case rel => exact ⟨j, by omega, rfl, H.out⟩
        case measure => simp [lenOf]
      · have hb : (x == 0) = false := by simpa using hx0
        have ht : (Num.trimmed zs).length = j + 1 := by
          rw [← HT.out, take_succ_getD (by have := HN.out; omega), ← HX.out, Num.trimmed_snoc _ hx0]
          simp; have := HN.out; omega
        have H := Lib.hid ht
        clear ht hx0
        go_wp2
        go_ret
        exact ⟨by rw [H.out]; rfl, rfl⟩
    · obtain rfl : k = 0 := by omega
      have ht : (Num.trimmed zs).length = 0 := by rw [← HT.out]; rfl
      have H := Lib.hid ht
      clear ht
      go_wp2
      go_ret
      exact ⟨by rw [H.out]; rfl, rfl⟩

set_option maxHeartbeats 1000000 in
theorem rTrim_nil (w : World) (xa : Option Addr) (cap : Nat) :
    Calls Tryz.prog 157 #[.slice xa 0 cap] w fun e w' => e = .returned (.slice xa 0 cap) ∧ w = w' := by
  go_enter Tryz.func157, Tryz.ntmps157
  go_wp2
  go_loop [0] (fun v => v = .slice xa 0 cap) (fun v => lenOf v)
  case atStart => rfl
  case round =>
    subst hrel
    go_wp2
    go_ret
    exact ⟨rfl, rfl⟩

theorem rTrim_any (w : World) (xa : Option Addr) (cap n : Nat) (zs : List Int) (hn : zs.length = n) (hz : Rd w xa cap zs) :
    Calls Tryz.prog 157 #[.slice xa n cap] w fun e w' => e = .returned (.slice xa (Num.trimmed zs).length cap) ∧ w = w' := by
  by_cases h0 : n = 0
  · subst h0
    obtain rfl : zs = [] := List.eq_nil_of_length_eq_zero hn
    exact rTrim_nil w xa cap
  · obtain ⟨b, o, rfl, hs⟩ := hz.sl (by omega)
    exact rTrim_sl w b o cap n zs hn hs

set_option maxHeartbeats 1000000 in
theorem rGroup_in (w : World) (b o cap n i : Nat) (zs : List Int) (hn : zs.length = n) (hz : Sr w b o cap zs) (hi : i < n) :
    Calls Tryz.prog 156 #[.slice (some ⟨b, o, none⟩) n cap, .int .i64 i] w fun e w' => e = .returned (.int .i64 (zs.getD i 0)) ∧ w = w' := by
  have hc := hz.cell i (by omega)
  obtain ⟨x, hx⟩ : ∃ x, x = zs.getD i 0 := ⟨_, rfl⟩
  rw [← hx] at hc ⊢
  have hnb : n ≤ 1000000 := by have := hz.lim; omega
  clear hx hn
  go_enter Tryz.func156, Tryz.ntmps156
  go_wp2
  go_ret
  exact ⟨rfl, rfl⟩

set_option maxHeartbeats 1000000 in
theorem rGroup_out (w : World) (xa : Option Addr) (cap n i : Nat) (hi : n ≤ i) :
    Calls Tryz.prog 156 #[.slice xa n cap, .int .i64 i] w fun e w' => e = .returned (.int .i64 0) ∧ w = w' := by
  have hb : ¬ i < n := by omega
  go_enter Tryz.func156, Tryz.ntmps156
  go_wp2
  go_ret
  exact ⟨rfl, rfl⟩

theorem rGroup_any (w : World) (xa : Option Addr) (cap n i : Nat) (zs : List Int) (hn : zs.length = n) (hz : Rd w xa cap zs) :
    Calls Tryz.prog 156 #[.slice xa n cap, .int .i64 i] w fun e w' => e = .returned (.int .i64 (zs.getD i 0)) ∧ w = w' := by
  by_cases hi : i < n
  · obtain ⟨b, o, rfl, hs⟩ := hz.sl (by omega)
    exact rGroup_in w b o cap n i zs hn hs hi
  · rw [show zs.getD i 0 = 0 by simp [List.getD, List.getElem?_eq_none (show zs.length ≤ i by omega)]]
    exact rGroup_out w xa cap n i (by omega)

set_option maxHeartbeats 1000000 in
theorem rOrder_ne (w : World) (xa ya : Option Addr) (cap capy n m : Nat) (hnm : n ≠ m) (z : Int) (hz : z = if n < m then -1 else 1) :
    Calls Tryz.prog 154 #[.slice xa n cap, .slice ya m capy] w fun e w' => e = .returned (.int .i64 z) ∧ w = w' := by
  have hb : ((n : Int) == (m : Int)) = false := by rw [beq_eq_false_iff_ne]; omega
  have hb2 : ((n : Int) != (m : Int)) = true := by rw [bne_iff_ne]; omega
  by_cases hlt : n < m
  · rw [if_pos hlt] at hz
    subst hz
    go_enter Tryz.func154, Tryz.ntmps154
    go_wp2
    go_ret
    exact ⟨rfl, rfl⟩
  · rw [if_neg hlt] at hz
    subst hz
    go_enter Tryz.func154, Tryz.ntmps154
    go_wp2
    go_ret
    exact ⟨rfl, rfl⟩

set_option maxHeartbeats 1000000 in
theorem rOrder_zero (w : World) (xa ya : Option Addr) (cap capy : Nat) :
    Calls Tryz.prog 154 #[.slice xa 0 cap, .slice ya 0 capy] w fun e w' => e = .returned (.int .i64 0) ∧ w = w' := by
  go_enter Tryz.func154, Tryz.ntmps154
  go_wp2
  go_loop [5] (fun i => i = .int .i64 (-1)) (fun i => (intOf i + 1).toNat)
  case atStart => rfl
  case round =>
    subst hrel
    go_wp2
    go_ret
    exact ⟨rfl, rfl⟩

set_option maxHeartbeats 1000000 in
theorem rOrder_eq (w : World) (b o cap ob oy capy n : Nat) (xs ys : List Int) (hn : xs.length = n) (hm : ys.length = n) (hx : Sr w b o cap xs) (hy : Sr w ob oy capy ys) (cx : Num.Can xs) (cy : Num.Can ys) :
    Calls Tryz.prog 154 #[.slice (some ⟨b, o, none⟩) n cap, .slice (some ⟨ob, oy, none⟩) n capy] w
      fun e w' => e = .returned (.int .i64 (cmp3 (Num.gval xs) (Num.gval ys))) ∧ ∃ k, w' = w.drewN k := by
  have hnb : n ≤ 1000000 := by have := hx.lim; omega
  have HN := Lib.hid hn
  have HM := Lib.hid hm
  clear hn hm
  have hb : ((n : Int) == n) = true := by simp
  go_enter Tryz.func154, Tryz.ntmps154
  go_wp2
  go_loopw [5] (fun i wr => ∃ z : Int, -1 ≤ z ∧ z < n ∧ i = .int .i64 z ∧ xs.drop (z + 1).toNat = ys.drop (z + 1).toNat ∧ ∃ q, wr = w.drewN q) (fun i _ => (intOf i + 1).toNat)
  case atStart => exact ⟨n - 1, by omega, by omega, rfl, by rw [List.drop_of_length_le (by have := HN.out; omega), List.drop_of_length_le (by have := HM.out; omega)], 0, rfl⟩
  case round =>
    obtain ⟨z, hz0, hz1, rfl, he, q, rfl⟩ := hrel
    have HE := Lib.hid he
    clear he
    by_cases hneg : z < 0
    · have hr : cmp3 (Num.gval xs) (Num.gval ys) = 0 := by
        have := HE.out
        rw [show (z + 1).toNat = 0 by omega] at this
        simp at this
        rw [this]; exact cmp3_eq rfl
      have H := Lib.hid hr
      clear hr
      go_wp2
      go_ret
      exact ⟨by rw [H.out]; rfl, q, rfl⟩
    · obtain ⟨j, rfl⟩ := Int.eq_ofNat_of_zero_le (show 0 ≤ z by omega)
      obtain ⟨x, hxx⟩ : ∃ x, x = xs.getD j 0 := ⟨_, rfl⟩
      obtain ⟨y, hyy⟩ : ∃ y, y = ys.getD j 0 := ⟨_, rfl⟩
      have hcx : w.cell? ⟨b, o + j, none⟩ = some (.int .i64 x) := by rw [hxx]; exact hx.cell j (by have := HN.out; omega)
      have hcy : w.cell? ⟨ob, oy + j, none⟩ = some (.int .i64 y) := by rw [hyy]; exact hy.cell j (by have := HM.out; omega)
      have HX := Lib.hid hxx
      have HY := Lib.hid hyy
      clear hxx hyy
      by_cases hxy : x = y
      · have hb2 : ¬ x < y := by omega
        have hb3 : ¬ y < x := by omega
        have hd : xs.drop j = ys.drop j := by
          have h1 := HN.out; have h2 := HM.out
          have h3 := HE.out
          rw [show ((j : Int) + 1).toNat = j + 1 by omega] at h3
          rw [List.drop_eq_getElem_cons (show j < xs.length by omega), List.drop_eq_getElem_cons (show j < ys.length by omega), h3]
          congr 1
          have e1 := HX.out; have e2 := HY.out
          simp [List.getD, show j < xs.length by omega] at e1
          simp [List.getD, show j < ys.length by omega] at e2
          rw [← e1, ← e2, hxy]
        have H := Lib.hid hd
        clear hd hxy
        go_wp2
        go_quiet (fail)
        go_wp2
        go_quiet (fail)
        go_wp2
        go_roundw
        case rel => exact ⟨_, by omega, by omega, rfl, by rw [show ((j : Int) - 1 + 1).toNat = j by omega]; exact H.out, _, rfl⟩
        case measure => simp [intOf]
      · have hr : cmp3 (Num.gval xs) (Num.gval ys) = if x < y then -1 else 1 := by
          have h1 := HN.out; have h2 := HM.out
          have h3 := HE.out
          rw [show ((j : Int) + 1).toNat = j + 1 by omega] at h3
          have e1 := HX.out; have e2 := HY.out
          simp [List.getD, show j < xs.length by omega] at e1
          simp [List.getD, show j < ys.length by omega] at e2
          by_cases hlt : x < y
          · rw [cmp3_lt (Num.gval_lt_at cx.1 cy.1 j (by omega) (by omega) h3 (by rw [← e1, ← e2]; exact hlt)), if_pos hlt]
          · rw [cmp3_gt (Num.gval_lt_at cy.1 cx.1 j (by omega) (by omega) h3.symm (by rw [← e1, ← e2]; omega)), if_neg hlt]
        by_cases hlt : x < y
        · rw [if_pos hlt] at hr
          have H := Lib.hid hr
          clear hr hxy
          go_wp2
          go_quiet (fail)
          go_wp2
          go_ret
          exact ⟨by rw [H.out]; rfl, _, by rw [World.drewN_drewN]⟩
        · rw [if_neg hlt] at hr
          have hgt : y < x := by omega
          have H := Lib.hid hr
          clear hr hxy
          go_wp2
          go_quiet (fail)
          go_wp2
          go_quiet (fail)
          go_wp2
          go_ret
          exact ⟨by rw [H.out]; rfl, _, by rw [World.drewN_drewN, World.drewN_drewN]⟩

theorem rOrder_any (w : World) (xa ya : Option Addr) (cap capy n m : Nat) (xs ys : List Int) (hn : xs.length = n) (hm : ys.length = m) (hx : Rd w xa cap xs) (hy : Rd w ya capy ys) (cx : Num.Can xs) (cy : Num.Can ys) :
    Calls Tryz.prog 154 #[.slice xa n cap, .slice ya m capy] w
      fun e w' => e = .returned (.int .i64 (cmp3 (Num.gval xs) (Num.gval ys))) ∧ ∃ k, w' = w.drewN k := by
  by_cases hnm : n = m
  · subst hnm
    by_cases h0 : n = 0
    · subst h0
      obtain rfl : xs = [] := List.eq_nil_of_length_eq_zero hn
      obtain rfl : ys = [] := List.eq_nil_of_length_eq_zero hm
      exact (rOrder_zero w xa ya cap capy).mono fun e w' h => ⟨h.1, 0, h.2 ▸ rfl⟩
    · obtain ⟨b, o, rfl, hs⟩ := hx.sl (by omega)
      obtain ⟨ob, oy, rfl, ht⟩ := hy.sl (by omega)
      exact rOrder_eq w b o cap ob oy capy n xs ys hn hm hs ht cx cy
  · refine (rOrder_ne w xa ya cap capy n m hnm _ rfl).mono fun e w' h => ⟨?_, 0, h.2 ▸ rfl⟩
    rw [h.1]
    by_cases hlt : n < m
    · rw [if_pos hlt, cmp3_lt (Num.gval_lt_of_length cx cy (by omega))]
    · rw [if_neg hlt, cmp3_gt (Num.gval_lt_of_length cy cx (by omega))]

end Go.Proofs.YthhihdihkddakaaGreatDoor
