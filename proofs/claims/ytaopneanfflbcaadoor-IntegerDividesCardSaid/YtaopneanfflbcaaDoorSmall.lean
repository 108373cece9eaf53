/- integer.Small: the walk, by the contracts of strconv.ParseInt. -/
import Derived.Test.YtaopneanfflbcaaDoorCompare
namespace Go.Proofs.YtaopneanfflbcaaDoor
open Go.RowKit

theorem parseUintM_num : ∀ (l : List UInt8) (acc : Nat), l.all Num.isDig = true → acc ≤ 18446744073709551615 →
    Lib.parseUintM (2 ^ 64 - 1) acc l = if acc * 10 ^ l.length + Num.num l ≤ 18446744073709551615 then .ok (acc * 10 ^ l.length + Num.num l) else .range
  | [], acc, _, h => by simp [Lib.parseUintM, Num.num, h]
  | c :: r, acc, hd, h => by
    simp only [List.all_cons, Bool.and_eq_true] at hd
    have hc := (Num.isDig_iff c).1 hd.1
    rw [Lib.parseUintM, if_pos hc, Num.num_cons, List.length_cons]
    have hp : 1 ≤ 10 ^ r.length := Nat.one_le_pow _ _ (by decide)
    have e : acc * 10 ^ (r.length + 1) = acc * 10 * 10 ^ r.length := by rw [Nat.pow_succ, Nat.mul_comm (10 ^ r.length), Nat.mul_assoc]
    have e2 : acc * 10 ^ (r.length + 1) + (Num.dv c * 10 ^ r.length + Num.num r) = (acc * 10 + (c.toNat - 48)) * 10 ^ r.length + Num.num r := by
      rw [e, Nat.add_mul]; unfold Num.dv; omega
    have hge : acc * 10 + (c.toNat - 48) ≤ (acc * 10 + (c.toNat - 48)) * 10 ^ r.length := Nat.le_mul_of_pos_right _ hp
    rw [e2]
    by_cases h1 : 1844674407370955162 ≤ acc
    · rw [if_pos h1, if_neg (by omega)]
    · rw [if_neg h1]
      by_cases h2 : 2 ^ 64 - 1 < acc * 10 + (c.toNat - 48)
      · rw [if_pos h2, if_neg (by omega)]
      · rw [if_neg h2, parseUintM_num r _ hd.2 (by omega)]

theorem parseUintB_dec (n : Nat) : Lib.parseUintB 64 (Lib.decDigits n) = if n ≤ 18446744073709551615 then .ok n else .range := by
  unfold Lib.parseUintB
  rw [if_neg (Num.decDigits_ne n), parseUintM_num _ 0 (Num.all_decDigits n) (by omega), Num.num_decDigits]
  simp

theorem parseIntB_itoa (z : Int) : Lib.parseIntB 64 (Lib.itoa z) = if -9223372036854775808 ≤ z ∧ z ≤ 9223372036854775807 then .ok z else .range := by
  unfold Lib.itoa
  by_cases h : z < 0
  · rw [if_pos h]
    unfold Lib.parseIntB
    simp only [show ((45 : UInt8).toNat = 45) from rfl, or_true, if_true]
    rw [parseUintB_dec]
    by_cases h1 : z.natAbs ≤ 18446744073709551615
    · rw [if_pos h1]
      simp only [not_true_eq_false, false_and, if_false, true_and]
      by_cases h2 : (2 ^ (64 - 1) < z.natAbs)
      · rw [if_pos h2, if_neg (by omega)]
      · rw [if_neg h2, if_pos (by omega)]
        congr 1; omega
    · rw [if_neg h1, if_neg (by omega)]
  · rw [if_neg h]
    have hd := Num.all_decDigits z.toNat
    have hn := Num.decDigits_ne z.toNat
    have hu := parseUintB_dec z.toNat
    generalize Lib.decDigits z.toNat = l at *
    cases l with
    | nil => exact absurd rfl hn
    | cons c r =>
      simp only [List.all_cons, Bool.and_eq_true] at hd
      have hc := (Num.isDig_iff c).1 hd.1
      unfold Lib.parseIntB
      simp only [show ¬ c.toNat = 43 by omega, if_false, show ¬ c.toNat = 45 by omega, or_self]
      rw [hu]
      by_cases h1 : z.toNat ≤ 18446744073709551615
      · rw [if_pos h1]
        simp only [not_false_eq_true, true_and, false_and, if_false]
        by_cases h2 : 2 ^ (64 - 1) ≤ z.toNat
        · rw [if_pos h2, if_neg (by omega)]
        · rw [if_neg h2, if_pos (by omega)]
          congr 1; omega
      · rw [if_neg h1, if_neg (by omega)]

/-- does the integer fit into an int? -/
def fits (z : Int) : Bool := decide (-9223372036854775808 ≤ z ∧ z ≤ 9223372036854775807)

theorem pS_length (z : Int) : (pS z).size ≤ (cS z).size + 1 := by
  by_cases h : z = 0
  · subst h; rw [pS_zero]; exact Nat.le_add_left 1 _
  · rw [pS_of_ne h]; omega
theorem pS_list (z : Int) : (pS z).data.toList = Lib.itoa z := rfl

set_option maxHeartbeats 400000 in
theorem small_fits (s : ByteArray) (w : World) (hs : s.size ≤ 4294967296) (hf : fits (vS s) = true) :
    Calls Tryd.prog 15 #[.string s] w fun e w' => e = .returned (.tuple #[.int .i64 (vS s), .bool true]) ∧ Below w.heap.size w w' := by
  have hp : Lib.parseIntB 64 (pS (vS s)).data.toList = .ok (vS s) := by
    rw [pS_list, parseIntB_itoa, if_pos (of_decide_eq_true hf)]
  have hl : (pS (vS s)).size ≤ 9223372036854775806 := by have := pS_length (vS s); have := cS_vS_size s; omega
  have HP := Lib.hid hp
  have HL := Lib.hid hl
  clear hp hl hf
  go_enter Tryd.func15, Tryd.ntmps15
  go_wp2_with fail
  refine (print_any _ _ hs).mono ?_; rintro e w' ⟨rfl, rfl⟩
  go_wp2_with fail
  refine (Tryd.strconv_ParseInt_10_at64_ok _ HL.out _ HP.out _).mono ?_
  rintro e w1 ⟨rfl, hw⟩
  have hb : Below w.heap.size w w1 := by
    rcases hw with rfl | ⟨t, rfl⟩
    · exact Below.refl _ _
    · exact Lib.bytesWorld_below _ _ _
  clear hw
  go_wp2
  go_ret2
  exact ⟨rfl, hb⟩

set_option maxHeartbeats 400000 in
theorem small_not (s : ByteArray) (w : World) (hG : Ground w) (hs : s.size ≤ 4294967296) (hf : fits (vS s) = false) :
    Calls Tryd.prog 15 #[.string s] w fun e w' => e = .returned (.tuple #[.int .i64 0, .bool false]) ∧ Below w.heap.size w w' := by
  have hp : Lib.parseIntB 64 (pS (vS s)).data.toList = .range := by
    rw [pS_list, parseIntB_itoa, if_neg (of_decide_eq_false hf)]
  have hl : (pS (vS s)).size ≤ 281474976710656 := by have := pS_length (vS s); have := cS_vS_size s; omega
  obtain ⟨tp, p, hv⟩ := hG.rng
  have HP := Lib.hid hp
  have HL := Lib.hid hl
  have HV := Lib.hid hv
  clear hp hl hf hv
  go_enter Tryd.func15, Tryd.ntmps15
  go_wp2_with fail
  refine (print_any _ _ hs).mono ?_; rintro e w' ⟨rfl, rfl⟩
  go_wp2_with fail
  refine (Tryd.strconv_ParseInt_10_at64_range_var _ HL.out HP.out _ _ _ HV.out).mono ?_
  rintro e w1 ⟨n, rfl, _, _, hb⟩
  go_wp2
  go_ret2
  exact ⟨rfl, hb⟩

end Go.Proofs.YtaopneanfflbcaaDoor
