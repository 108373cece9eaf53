/- The reference implementation of layer 1: Div of short numbers: walks. -/
import Derived.Test.YtldohkfomdcpoaaGreatDoorRefL
import Derived.Test.YtldohkfomdcpoaaGreatDoorDiv
namespace Go.Proofs.YtldohkfomdcpoaaGreatDoor
open Go.RowKit

theorem short_bound {a : ByteArray} {m : Int} (h : shortV a = .tuple #[.int .i64 m, .bool true]) : m = vS a ∧ -100000000000000000 < m ∧ m < 100000000000000000 := by
  unfold shortV at h
  by_cases h17 : (Num.sdig a.data.toList).length ≤ 17
  · rw [if_pos h17] at h
    injection h with h
    have h2 : vS a = m := by
      have := congrArg (fun x : Array Value => x[0]?) h
      simp at this; exact this
    have h1 := Num.num_lt _ (Num.Plain.sdig a.data.toList).1
    have h3 := Nat.pow_le_pow_right (show 1 ≤ 10 by decide) h17
    have h4 : (vS a).natAbs = Num.mag a.data.toList := Num.natAbs_val _
    unfold Num.mag at h4
    omega
  · rw [if_neg h17] at h
    injection h with h
    have := congrArg (fun x : Array Value => x[1]?) h
    simp at this

/-- quotient and remainder towards zero, and down -/
theorem tdiv_facts (m n : Int) (hn : n ≠ 0) : m = m.tdiv n * n + m.tmod n ∧ (m.tmod n).natAbs < n.natAbs ∧ (0 ≤ m → 0 ≤ m.tmod n) ∧ (m ≤ 0 → m.tmod n ≤ 0) ∧ (m.tdiv n).natAbs ≤ m.natAbs := by
  refine ⟨by rw [Int.mul_comm]; exact (Int.mul_tdiv_add_tmod m n).symm, ?_, ?_, ?_, ?_⟩
  · rw [Int.natAbs_tmod]; exact Nat.mod_lt _ (by omega)
  · intro h; exact Int.tmod_nonneg _ h
  · intro h
    have h1 := Int.tmod_nonneg n (show 0 ≤ -m by omega)
    rw [Int.neg_tmod] at h1; omega
  · rw [Int.natAbs_tdiv]; exact Nat.div_le_self _ _

theorem div_down {m n q r : Int} (hn : n ≠ 0) (hq : q = m.tdiv n) (hr : r = m.tmod n) (h : r = 0 ∨ (r < 0 ∧ n < 0) ∨ (¬ r < 0 ∧ ¬ n < 0)) : Int.fdiv m n = q ∧ Int.fmod m n = r := by
  have hf := tdiv_facts m n hn
  rw [← hq, ← hr] at hf
  exact fdiv_unique hf.1 (by omega)
theorem div_fix {m n q r : Int} (hn : n ≠ 0) (hq : q = m.tdiv n) (hr : r = m.tmod n) (h0 : r ≠ 0) (h : (r < 0 ∧ ¬ n < 0) ∨ (¬ r < 0 ∧ n < 0)) : Int.fdiv m n = q - 1 ∧ Int.fmod m n = r + n := by
  have hf := tdiv_facts m n hn
  rw [← hq, ← hr] at hf
  exact fdiv_unique (by rw [Int.sub_mul]; omega) (by omega)

set_option maxRecDepth 100000 in
set_option maxHeartbeats 2000000 in
theorem rDiv_zero (a b : ByteArray) (w : World) (ha : a.size ≤ 1000) (hb : b.size ≤ 1000) (h0 : vS b = 0) :
    Calls Tryz.prog 53 #[.string a, .string b] w fun e w' => e = .returned (.tuple #[.string ⟨#[]⟩, .string ⟨#[]⟩, .int .i64 10]) ∧ w = w' := by
  have hsb : shortV b = .tuple #[.int .i64 0, .bool true] := by
    unfold shortV
    rw [if_pos, h0]
    rw [Num.sdig_val]
    have : Num.val b.data.toList = 0 := h0
    rw [this]; decide
  have HSB := Lib.hid hsb
  obtain ⟨p, q, hpq⟩ : ∃ (p : Int) (q : Bool), shortV a = .tuple #[.int .i64 p, .bool q] := by
    rcases shortV_ways a with h | h
    · exact ⟨_, _, h⟩
    · exact ⟨_, _, h⟩
  have HSA := Lib.hid hpq
  clear hsb hpq h0
  go_enter Tryz.func53, Tryz.ntmps53
  go_wp2_with fail
  refine (short_any a w (by omega)).mono ?_
  rintro e _ ⟨rfl, rfl⟩
  rw [HSA.out]
  go_wp2_with fail
  refine (short_any b w (by omega)).mono ?_
  rintro e _ ⟨rfl, rfl⟩
  rw [HSB.out]
  go_wp2_with fail
  go_ret3
  exact ⟨rfl, rfl⟩

set_option maxRecDepth 100000 in
set_option maxHeartbeats 2000000 in
theorem rDiv_way0 (a b : ByteArray) (w : World) (ha : a.size ≤ 1000) (hb : b.size ≤ 1000) (m n q r : Int) (hsa : shortV a = .tuple #[.int .i64 m, .bool true]) (hsb : shortV b = .tuple #[.int .i64 n, .bool true])
    (hnz : (n == 0) = false) (hn : n ≠ 0) (hq : m.tdiv n = q) (hr : m.tmod n = r) (_n0 : -100000000000000000 < n) (_n1 : n < 100000000000000000)
    (q0 : -100000000000000000 < q) (q1 : q < 100000000000000000) (r0 : -100000000000000000 < r) (r1 : r < 100000000000000000) (h1 : (r != 0) = false) :
    Calls Tryz.prog 53 #[.string a, .string b] w fun e w' => e = .returned (.tuple #[.string (cS q), .string (cS r), .int .i64 0]) ∧ Below w.heap.size w w' := by
  have hw1 : IntKind.i64.wrap q = q := IntWalk.i64_in _ (by omega)
  have hw2 : IntKind.i64.wrap r = r := IntWalk.i64_in _ (by omega)
  have HSA := Lib.hid hsa
  have HSB := Lib.hid hsb
  clear hsa hsb
  go_enter Tryz.func53, Tryz.ntmps53
  go_wp2_with fail
  refine (short_any a w (by omega)).mono ?_
  rintro e _ ⟨rfl, rfl⟩
  rw [HSA.out]
  go_wp2_with fail
  refine (short_any b w (by omega)).mono ?_
  rintro e _ ⟨rfl, rfl⟩
  rw [HSB.out]
  go_wp2_with fail
  go_quiet (fail)
  clear hw1 hw2 hq hr
  go_wp2_with fail
  refine (rOf_any q _ (by omega) (by omega)).mono ?_
  rintro e _ ⟨rfl, rfl⟩
  go_wp2_with fail
  refine (rOf_any r _ (by omega) (by omega)).mono ?_
  rintro e _ ⟨rfl, rfl⟩
  go_wp2_with fail
  go_ret3
  exact ⟨rfl, below_drewN (Below.refl _ _) _⟩

set_option maxRecDepth 100000 in
set_option maxHeartbeats 2000000 in
theorem rDiv_way1 (a b : ByteArray) (w : World) (ha : a.size ≤ 1000) (hb : b.size ≤ 1000) (m n q r : Int) (hsa : shortV a = .tuple #[.int .i64 m, .bool true]) (hsb : shortV b = .tuple #[.int .i64 n, .bool true])
    (hnz : (n == 0) = false) (hn : n ≠ 0) (hq : m.tdiv n = q) (hr : m.tmod n = r) (_n0 : -100000000000000000 < n) (_n1 : n < 100000000000000000)
    (q0 : -100000000000000000 < q) (q1 : q < 100000000000000000) (r0 : -100000000000000000 < r) (r1 : r < 100000000000000000) (h1 : (r != 0) = true) (h2 : r < 0) (h3 : n < 0) :
    Calls Tryz.prog 53 #[.string a, .string b] w fun e w' => e = .returned (.tuple #[.string (cS q), .string (cS r), .int .i64 0]) ∧ Below w.heap.size w w' := by
  have hw1 : IntKind.i64.wrap q = q := IntWalk.i64_in _ (by omega)
  have hw2 : IntKind.i64.wrap r = r := IntWalk.i64_in _ (by omega)
  have HSA := Lib.hid hsa
  have HSB := Lib.hid hsb
  have hd1 : decide (r < 0) = true := by rw [decide_eq_true_iff]; omega
  have hd2 : decide (n < 0) = true := by rw [decide_eq_true_iff]; omega
  clear hsa hsb
  go_enter Tryz.func53, Tryz.ntmps53
  go_wp2_with fail
  refine (short_any a w (by omega)).mono ?_
  rintro e _ ⟨rfl, rfl⟩
  rw [HSA.out]
  go_wp2_with fail
  refine (short_any b w (by omega)).mono ?_
  rintro e _ ⟨rfl, rfl⟩
  rw [HSB.out]
  go_wp2_with fail
  go_quiet (fail)
  clear hw1 hw2 hq hr
  go_wp2_with fail
  refine (rOf_any q _ (by omega) (by omega)).mono ?_
  rintro e _ ⟨rfl, rfl⟩
  go_wp2_with fail
  refine (rOf_any r _ (by omega) (by omega)).mono ?_
  rintro e _ ⟨rfl, rfl⟩
  go_wp2_with fail
  go_ret3
  exact ⟨rfl, below_drewN (Below.refl _ _) _⟩

set_option maxRecDepth 100000 in
set_option maxHeartbeats 2000000 in
theorem rDiv_way2 (a b : ByteArray) (w : World) (ha : a.size ≤ 1000) (hb : b.size ≤ 1000) (m n q r : Int) (hsa : shortV a = .tuple #[.int .i64 m, .bool true]) (hsb : shortV b = .tuple #[.int .i64 n, .bool true])
    (hnz : (n == 0) = false) (hn : n ≠ 0) (hq : m.tdiv n = q) (hr : m.tmod n = r) (_n0 : -100000000000000000 < n) (_n1 : n < 100000000000000000)
    (q0 : -100000000000000000 < q) (q1 : q < 100000000000000000) (r0 : -100000000000000000 < r) (r1 : r < 100000000000000000) (h1 : (r != 0) = true) (h2 : 0 ≤ r) (h3 : 0 ≤ n) :
    Calls Tryz.prog 53 #[.string a, .string b] w fun e w' => e = .returned (.tuple #[.string (cS q), .string (cS r), .int .i64 0]) ∧ Below w.heap.size w w' := by
  have hw1 : IntKind.i64.wrap q = q := IntWalk.i64_in _ (by omega)
  have hw2 : IntKind.i64.wrap r = r := IntWalk.i64_in _ (by omega)
  have HSA := Lib.hid hsa
  have HSB := Lib.hid hsb
  have hd1 : decide (r < 0) = false := by rw [decide_eq_false_iff_not]; omega
  have hd2 : decide (n < 0) = false := by rw [decide_eq_false_iff_not]; omega
  clear hsa hsb
  go_enter Tryz.func53, Tryz.ntmps53
  go_wp2_with fail
  refine (short_any a w (by omega)).mono ?_
  rintro e _ ⟨rfl, rfl⟩
  rw [HSA.out]
  go_wp2_with fail
  refine (short_any b w (by omega)).mono ?_
  rintro e _ ⟨rfl, rfl⟩
  rw [HSB.out]
  go_wp2_with fail
  go_quiet (fail)
  clear hw1 hw2 hq hr
  go_wp2_with fail
  refine (rOf_any q _ (by omega) (by omega)).mono ?_
  rintro e _ ⟨rfl, rfl⟩
  go_wp2_with fail
  refine (rOf_any r _ (by omega) (by omega)).mono ?_
  rintro e _ ⟨rfl, rfl⟩
  go_wp2_with fail
  go_ret3
  exact ⟨rfl, below_drewN (Below.refl _ _) _⟩

set_option maxRecDepth 100000 in
set_option maxHeartbeats 2000000 in
theorem rDiv_way3 (a b : ByteArray) (w : World) (ha : a.size ≤ 1000) (hb : b.size ≤ 1000) (m n q r : Int) (hsa : shortV a = .tuple #[.int .i64 m, .bool true]) (hsb : shortV b = .tuple #[.int .i64 n, .bool true])
    (hnz : (n == 0) = false) (hn : n ≠ 0) (hq : m.tdiv n = q) (hr : m.tmod n = r) (n0 : -100000000000000000 < n) (n1 : n < 100000000000000000)
    (q0 : -100000000000000000 < q) (q1 : q < 100000000000000000) (r0 : -100000000000000000 < r) (r1 : r < 100000000000000000) (h1 : (r != 0) = true) (h2 : r < 0) (h3 : 0 ≤ n) :
    Calls Tryz.prog 53 #[.string a, .string b] w fun e w' => e = .returned (.tuple #[.string (cS (q - 1)), .string (cS (r + n)), .int .i64 0]) ∧ Below w.heap.size w w' := by
  have hw1 : IntKind.i64.wrap q = q := IntWalk.i64_in _ (by omega)
  have hw2 : IntKind.i64.wrap r = r := IntWalk.i64_in _ (by omega)
  have HSA := Lib.hid hsa
  have HSB := Lib.hid hsb
  have hd1 : decide (r < 0) = true := by rw [decide_eq_true_iff]; omega
  have hd2 : decide (n < 0) = false := by rw [decide_eq_false_iff_not]; omega
  clear hsa hsb
  go_enter Tryz.func53, Tryz.ntmps53
  go_wp2_with fail
  refine (short_any a w (by omega)).mono ?_
  rintro e _ ⟨rfl, rfl⟩
  rw [HSA.out]
  go_wp2_with fail
  refine (short_any b w (by omega)).mono ?_
  rintro e _ ⟨rfl, rfl⟩
  rw [HSB.out]
  go_wp2_with fail
  go_quiet (fail)
  clear hw1 hw2 hq hr
  go_wp2_with fail
  refine (rOf_any (q - 1) _ (by omega) (by omega)).mono ?_
  rintro e _ ⟨rfl, rfl⟩
  go_wp2_with fail
  refine (rOf_any (r + n) _ (by omega) (by omega)).mono ?_
  rintro e _ ⟨rfl, rfl⟩
  go_wp2_with fail
  go_ret3
  exact ⟨rfl, below_drewN (Below.refl _ _) _⟩

set_option maxRecDepth 100000 in
set_option maxHeartbeats 2000000 in
theorem rDiv_way4 (a b : ByteArray) (w : World) (ha : a.size ≤ 1000) (hb : b.size ≤ 1000) (m n q r : Int) (hsa : shortV a = .tuple #[.int .i64 m, .bool true]) (hsb : shortV b = .tuple #[.int .i64 n, .bool true])
    (hnz : (n == 0) = false) (hn : n ≠ 0) (hq : m.tdiv n = q) (hr : m.tmod n = r) (n0 : -100000000000000000 < n) (n1 : n < 100000000000000000)
    (q0 : -100000000000000000 < q) (q1 : q < 100000000000000000) (r0 : -100000000000000000 < r) (r1 : r < 100000000000000000) (h1 : (r != 0) = true) (h2 : 0 ≤ r) (h3 : n < 0) :
    Calls Tryz.prog 53 #[.string a, .string b] w fun e w' => e = .returned (.tuple #[.string (cS (q - 1)), .string (cS (r + n)), .int .i64 0]) ∧ Below w.heap.size w w' := by
  have hw1 : IntKind.i64.wrap q = q := IntWalk.i64_in _ (by omega)
  have hw2 : IntKind.i64.wrap r = r := IntWalk.i64_in _ (by omega)
  have HSA := Lib.hid hsa
  have HSB := Lib.hid hsb
  have hd1 : decide (r < 0) = false := by rw [decide_eq_false_iff_not]; omega
  have hd2 : decide (n < 0) = true := by rw [decide_eq_true_iff]; omega
  clear hsa hsb
  go_enter Tryz.func53, Tryz.ntmps53
  go_wp2_with fail
  refine (short_any a w (by omega)).mono ?_
  rintro e _ ⟨rfl, rfl⟩
  rw [HSA.out]
  go_wp2_with fail
  refine (short_any b w (by omega)).mono ?_
  rintro e _ ⟨rfl, rfl⟩
  rw [HSB.out]
  go_wp2_with fail
  go_quiet (fail)
  clear hw1 hw2 hq hr
  go_wp2_with fail
  refine (rOf_any (q - 1) _ (by omega) (by omega)).mono ?_
  rintro e _ ⟨rfl, rfl⟩
  go_wp2_with fail
  refine (rOf_any (r + n) _ (by omega) (by omega)).mono ?_
  rintro e _ ⟨rfl, rfl⟩
  go_wp2_with fail
  go_ret3
  exact ⟨rfl, below_drewN (Below.refl _ _) _⟩

theorem rDiv_short (a b : ByteArray) (w : World) (ha : a.size ≤ 1000) (hb : b.size ≤ 1000) (m n : Int) (hsa : shortV a = .tuple #[.int .i64 m, .bool true]) (hsb : shortV b = .tuple #[.int .i64 n, .bool true]) (hn : n ≠ 0) :
    Calls Tryz.prog 53 #[.string a, .string b] w (DivPost w m n) := by
  obtain ⟨_, m0, m1⟩ := short_bound hsa
  obtain ⟨_, n0, n1⟩ := short_bound hsb
  obtain ⟨q, hq⟩ : ∃ q, m.tdiv n = q := ⟨_, rfl⟩
  obtain ⟨r, hr⟩ : ∃ r, m.tmod n = r := ⟨_, rfl⟩
  have hf := tdiv_facts m n hn
  rw [hq, hr] at hf
  have hnz : (n == 0) = false := by rw [beq_eq_false_iff_ne]; exact hn
  have q0 : -100000000000000000 < q := by omega
  have q1 : q < 100000000000000000 := by omega
  have r0 : -100000000000000000 < r := by omega
  have r1 : r < 100000000000000000 := by omega
  unfold DivPost
  by_cases h : r = 0
  · have hd := div_down hn hq.symm hr.symm (.inl h)
    rw [hd.1, hd.2]
    exact rDiv_way0 a b w ha hb m n q r hsa hsb hnz hn hq hr n0 n1 q0 q1 r0 r1 (by rw [h]; rfl)
  · have h1 : (r != 0) = true := by rw [bne_iff_ne]; exact h
    by_cases h2 : r < 0
    · by_cases h3 : n < 0
      · have hd := div_down hn hq.symm hr.symm (.inr (.inl ⟨h2, h3⟩))
        rw [hd.1, hd.2]
        exact rDiv_way1 a b w ha hb m n q r hsa hsb hnz hn hq hr n0 n1 q0 q1 r0 r1 h1 h2 h3
      · have hd := div_fix hn hq.symm hr.symm h (.inl ⟨h2, h3⟩)
        rw [hd.1, hd.2]
        exact rDiv_way3 a b w ha hb m n q r hsa hsb hnz hn hq hr n0 n1 q0 q1 r0 r1 h1 h2 (by omega)
    · by_cases h3 : n < 0
      · have hd := div_fix hn hq.symm hr.symm h (.inr ⟨h2, h3⟩)
        rw [hd.1, hd.2]
        exact rDiv_way4 a b w ha hb m n q r hsa hsb hnz hn hq hr n0 n1 q0 q1 r0 r1 h1 (by omega) h3
      · have hd := div_down hn hq.symm hr.symm (.inr (.inr ⟨h2, h3⟩))
        rw [hd.1, hd.2]
        exact rDiv_way2 a b w ha hb m n q r hsa hsb hnz hn hq hr n0 n1 q0 q1 r0 r1 h1 (by omega) (by omega)

end Go.Proofs.YtldohkfomdcpoaaGreatDoor
