/- the law IntegerOrder: the walk. -/
import Derived.Test.YtaopneanfflbcaaDoorLaw
namespace Go.Proofs.YtaopneanfflbcaaDoor
open Go.RowKit

theorem cmp3_lt_of {x y : Int} (h : cmp3 x y = -1) : x < y := by
  unfold cmp3 at h; split at h
  · assumption
  · split at h <;> omega
theorem cmp3_gt_of {x y : Int} (h : cmp3 x y = 1) : y < x := by
  unfold cmp3 at h; split at h
  · omega
  · split at h
    · assumption
    · omega
theorem cmp3_eq_of {x y : Int} (h : cmp3 x y = 0) : x = y := by
  unfold cmp3 at h; split at h
  · omega
  · split at h <;> omega
theorem cmp3_three (x y : Int) : cmp3 x y = -1 ∨ cmp3 x y = 0 ∨ cmp3 x y = 1 := by
  unfold cmp3; split
  · exact .inl rfl
  · split
    · exact .inr (.inr rfl)
    · exact .inr (.inl rfl)
theorem cmp3_trans {x y z c : Int} (h1 : cmp3 x y = c) (h2 : cmp3 y z = c) : cmp3 x z = c := by
  rcases cmp3_three x y with h | h | h <;> rw [h] at h1 <;> subst h1
  · exact cmp3_lt (Int.lt_trans (cmp3_lt_of h) (cmp3_lt_of h2))
  · exact cmp3_eq ((cmp3_eq_of h).trans (cmp3_eq_of h2))
  · exact cmp3_gt (Int.lt_trans (cmp3_gt_of h2) (cmp3_gt_of h))
theorem cmp3_add (x y z : Int) : cmp3 (x + z) (y + z) = cmp3 x y := by
  rcases cmp3_three x y with h | h | h <;> rw [h]
  · have := cmp3_lt_of h; exact cmp3_lt (by omega)
  · have := cmp3_eq_of h; exact cmp3_eq (by omega)
  · have := cmp3_gt_of h; exact cmp3_gt (by omega)
theorem cmp3_sub (x y : Int) : cmp3 (x - y) 0 = cmp3 x y := by
  rcases cmp3_three x y with h | h | h <;> rw [h]
  · have := cmp3_lt_of h; exact cmp3_lt (by omega)
  · have := cmp3_eq_of h; exact cmp3_eq (by omega)
  · have := cmp3_gt_of h; exact cmp3_gt (by omega)
theorem cmp3_mul {x y z c s : Int} (hc : cmp3 x y = c) (hs : cmp3 z 0 = s) : cmp3 (x * z) (y * z) = c * s := by
  subst hc hs
  rcases cmp3_three z 0 with h | h | h <;> rw [h]
  · have h0 := cmp3_lt_of h
    rw [Int.mul_neg, Int.mul_one, ← cmp3_swap x y]
    rcases cmp3_three y x with h2 | h2 | h2 <;> rw [h2]
    · have := Int.mul_lt_mul_of_neg_right (cmp3_lt_of h2) h0; exact cmp3_lt this
    · rw [cmp3_eq_of h2]; exact cmp3_eq rfl
    · have := Int.mul_lt_mul_of_neg_right (cmp3_gt_of h2) h0; exact cmp3_gt this
  · rw [cmp3_eq_of h, Int.mul_zero, Int.mul_zero, Int.mul_zero]; exact cmp3_eq rfl
  · have h0 := cmp3_gt_of h
    rw [Int.mul_one]
    rcases cmp3_three x y with h2 | h2 | h2 <;> rw [h2]
    · have := Int.mul_lt_mul_of_pos_right (cmp3_lt_of h2) h0; exact cmp3_lt this
    · rw [cmp3_eq_of h2]; exact cmp3_eq rfl
    · have := Int.mul_lt_mul_of_pos_right (cmp3_gt_of h2) h0; exact cmp3_gt this
theorem cS_beq_ne {x y : Int} (h : x ≠ y) : ((cS x).toList == (cS y).toList) = false := by
  rw [beq_toList]; simp only [decide_eq_false_iff_not]; exact fun e => h (cS_inj e)

set_option maxRecDepth 100000 in
set_option maxHeartbeats 16000000 in
theorem order_any (a b c : ByteArray) (w : World) (hG : Ground w) :
    Calls Tryd.prog 7 #[.string a, .string b, .string c] w fun e w' => e = .returned (.bool true) ∧ Below w.heap.size w w' := by
  by_cases hs : a.size ≤ 60 ∧ b.size ≤ 60 ∧ c.size ≤ 60
  · obtain ⟨h1, h2, h3⟩ := hs
    have hl : long [a, b, c] = false := long_false (by simp; omega)
    obtain ⟨x, hx⟩ : ∃ x, vS a = x := ⟨_, rfl⟩
    obtain ⟨y, hy⟩ : ∃ y, vS b = y := ⟨_, rfl⟩
    obtain ⟨z, hz⟩ : ∃ z, vS c = z := ⟨_, rfl⟩
    have Ha := Lib.hid (And.intro hx h1)
    have Hb := Lib.hid (And.intro hy h2)
    have Hc := Lib.hid (And.intro hz h3)
    clear hx hy hz h1 h2 h3
    have HL := Lib.hid hl
    clear hl
    go_enter Tryd.func7, Tryd.ntmps7
    go_wp2_with fail
    obtain ⟨W0, hW0⟩ : ∃ W0, W0 = w.alloc (.cells #[.string a, .string b, .string c] 22) := ⟨_, rfl⟩
    have hc0 : ∀ i, i < 3 → W0.cell? ⟨w.heap.size, i, none⟩ = some (.string ([a, b, c].getD i ⟨#[]⟩)) := by rw [hW0]; exact great_cells w [a, b, c]
    have hB : Below w.heap.size w W0 := by rw [hW0]; exact (Below.refl _ w).alloc (Nat.le_refl _) _
    rw [← hW0]
    clear hW0
    refine (great_any W0 w.heap.size 3 [a, b, c] rfl (by decide) hc0).mono ?_
    rintro e _ ⟨rfl, rfl⟩
    clear hc0
    rw [HL.out]
    go_wp2_with fail
    obtain ⟨s, hsv⟩ : ∃ s, cmp3 z 0 = s := ⟨_, rfl⟩
    obtain ⟨d, hd⟩ : ∃ d, cmp3 y z = d := ⟨_, rfl⟩
    obtain ⟨t, ht⟩ : ∃ t, cmp3 x z = t := ⟨_, rfl⟩
    have hs0 : -1 ≤ s ∧ s ≤ 1 := by rcases cmp3_three z 0 with h | h | h <;> omega
    obtain ⟨hs0, hs1⟩ := hs0
    rcases cmp3_three x y with hc | hc | hc
    · by_cases he : d = -1
      · have HT := Lib.hid (And.intro hc (And.intro (cmp3_trans hc (hd.trans he)) (And.intro hsv (hd.trans he))))
        clear hc hd ht hsv he d t
        have hbe := cS_beq_ne (x := x) (y := y) (by have := cmp3_lt_of HT.out.1; omega)
        refine (compare_v (a := a) (b := b) (x := x) (y := y) (z := -1) W0 (Nat.le_trans Ha.out.2 (by decide)) (Nat.le_trans Hb.out.2 (by decide)) Ha.out.1 Hb.out.1 HT.out.1).mono ?_
        rintro e w1 ⟨rfl, h⟩
        replace hB := hB.trans (h.mono hB.size)
        clear h
        go_wp2_with fail
        refine (compare_v (a := b) (b := c) (x := y) (y := z) (z := -1) w1 (Nat.le_trans Hb.out.2 (by decide)) (Nat.le_trans Hc.out.2 (by decide)) Hb.out.1 Hc.out.1 (HT.out.2.2.2)).mono ?_
        rintro e w2 ⟨rfl, h⟩
        replace hB := hB.trans (h.mono hB.size)
        clear h
        go_wp2_with fail
        refine (compare_v (a := a) (b := c) (x := x) (y := z) (z := -1) w2 (Nat.le_trans Ha.out.2 (by decide)) (Nat.le_trans Hc.out.2 (by decide)) Ha.out.1 Hc.out.1 (HT.out.2.1)).mono ?_
        rintro e w3 ⟨rfl, h⟩
        replace hB := hB.trans (h.mono hB.size)
        clear h
        go_wp2_with fail
        refine (compare_v (a := b) (b := a) (x := y) (y := x) (z := 1) w3 (Nat.le_trans Hb.out.2 (by decide)) (Nat.le_trans Ha.out.2 (by decide)) Hb.out.1 Ha.out.1 (by rw [cmp3_swap, HT.out.1]; rfl)).mono ?_
        rintro e w4 ⟨rfl, h⟩
        replace hB := hB.trans (h.mono hB.size)
        clear h
        go_wp2_with fail
        refine (canonical_v (a := a) (x := x) (z := x) w4 (Nat.le_trans Ha.out.2 (by decide)) Ha.out.1 rfl).mono ?_
        rintro e _ ⟨rfl, rfl⟩
        go_wp2_with fail
        refine (canonical_v (a := b) (x := y) (z := y) w4 (Nat.le_trans Hb.out.2 (by decide)) Hb.out.1 rfl).mono ?_
        rintro e _ ⟨rfl, rfl⟩
        go_wp2_with fail
        refine (compare_v (a := c) (b := ⟨#[]⟩) (x := z) (y := 0) (z := s) w4 (Nat.le_trans Hc.out.2 (by decide)) (by decide) Hc.out.1 vS_nil (HT.out.2.2.1)).mono ?_
        rintro e w5 ⟨rfl, h⟩
        replace hB := hB.trans (h.mono hB.size)
        clear h
        go_wp2_with fail
        refine (add_v (a := a) (b := c) (x := x) (y := z) (z := x + z) w5 (hG.below hB) (Nat.le_trans Ha.out.2 (by decide)) (Nat.le_trans Hc.out.2 (by decide)) Ha.out.1 Hc.out.1 (rfl)).mono ?_
        rintro e w6 ⟨rfl, h⟩
        replace hB := hB.trans (h.mono hB.size)
        clear h
        go_wp2_with fail
        refine (add_v (a := b) (b := c) (x := y) (y := z) (z := y + z) w6 (hG.below hB) (Nat.le_trans Hb.out.2 (by decide)) (Nat.le_trans Hc.out.2 (by decide)) Hb.out.1 Hc.out.1 (rfl)).mono ?_
        rintro e w7 ⟨rfl, h⟩
        replace hB := hB.trans (h.mono hB.size)
        clear h
        go_wp2_with fail
        refine (compare_v (a := (cS (x + z))) (b := (cS (y + z))) (x := x + z) (y := y + z) (z := -1) w7 (Cap.size (k := 61) (Cap.add (Cap.of Ha.out.2 Ha.out.1) (Cap.of Hc.out.2 Hc.out.1)) (by decide)) (Cap.size (k := 61) (Cap.add (Cap.of Hb.out.2 Hb.out.1) (Cap.of Hc.out.2 Hc.out.1)) (by decide)) (vS_cS _) (vS_cS _) ((cmp3_add x y z).trans HT.out.1)).mono ?_
        rintro e w8 ⟨rfl, h⟩
        replace hB := hB.trans (h.mono hB.size)
        clear h
        go_wp2_with fail
        refine (mul_v (a := a) (b := c) (x := x) (y := z) (z := x * z) w8 (hG.below hB) (Nat.le_trans Ha.out.2 (by decide)) (Nat.le_trans Hc.out.2 (by decide)) Ha.out.1 Hc.out.1 (rfl)).mono ?_
        rintro e w9 ⟨rfl, h⟩
        replace hB := hB.trans (h.mono hB.size)
        clear h
        go_wp2_with fail
        refine (mul_v (a := b) (b := c) (x := y) (y := z) (z := y * z) w9 (hG.below hB) (Nat.le_trans Hb.out.2 (by decide)) (Nat.le_trans Hc.out.2 (by decide)) Hb.out.1 Hc.out.1 (rfl)).mono ?_
        rintro e w10 ⟨rfl, h⟩
        replace hB := hB.trans (h.mono hB.size)
        clear h
        go_wp2_with fail
        refine (compare_v (a := (cS (x * z))) (b := (cS (y * z))) (x := x * z) (y := y * z) (z := -s) w10 (Cap.size (k := 120) (Cap.mul (Cap.of Ha.out.2 Ha.out.1) (Cap.of Hc.out.2 Hc.out.1)) (by decide)) (Cap.size (k := 120) (Cap.mul (Cap.of Hb.out.2 Hb.out.1) (Cap.of Hc.out.2 Hc.out.1)) (by decide)) (vS_cS _) (vS_cS _) ((cmp3_mul HT.out.1 HT.out.2.2.1).trans (by omega))).mono ?_
        rintro e w11 ⟨rfl, h⟩
        replace hB := hB.trans (h.mono hB.size)
        clear h
        go_wp2_with fail
        refine (sub_v (a := a) (b := b) (x := x) (y := y) (z := x - y) w11 (hG.below hB) (Nat.le_trans Ha.out.2 (by decide)) (Nat.le_trans Hb.out.2 (by decide)) Ha.out.1 Hb.out.1 (rfl)).mono ?_
        rintro e w12 ⟨rfl, h⟩
        replace hB := hB.trans (h.mono hB.size)
        clear h
        go_wp2_with fail
        refine (compare_v (a := (cS (x - y))) (b := ⟨#[]⟩) (x := x - y) (y := 0) (z := -1) w12 (Cap.size (k := 61) (Cap.sub (Cap.of Ha.out.2 Ha.out.1) (Cap.of Hb.out.2 Hb.out.1)) (by decide)) (by decide) (vS_cS _) vS_nil ((cmp3_sub x y).trans HT.out.1)).mono ?_
        rintro e w13 ⟨rfl, h⟩
        replace hB := hB.trans (h.mono hB.size)
        clear h
        go_wp2_with fail
        refine (awake_any w13 (hG.below hB)).mono ?_
        rintro e w14 ⟨rfl, h⟩
        replace hB := hB.trans (h.mono hB.size)
        clear h
        go_wp2_with fail
        go_ret
        exact ⟨rfl, hB⟩
      · have hne : ((-1 : Int) == d) = false := by rw [beq_eq_false_iff_ne]; exact fun h => he h.symm
        have HT := Lib.hid (And.intro hc (And.intro ht (And.intro hsv hd)))
        clear hc hd ht hsv he
        have hbe := cS_beq_ne (x := x) (y := y) (by have := cmp3_lt_of HT.out.1; omega)
        refine (compare_v (a := a) (b := b) (x := x) (y := y) (z := -1) W0 (Nat.le_trans Ha.out.2 (by decide)) (Nat.le_trans Hb.out.2 (by decide)) Ha.out.1 Hb.out.1 HT.out.1).mono ?_
        rintro e w1 ⟨rfl, h⟩
        replace hB := hB.trans (h.mono hB.size)
        clear h
        go_wp2_with fail
        refine (compare_v (a := b) (b := c) (x := y) (y := z) (z := d) w1 (Nat.le_trans Hb.out.2 (by decide)) (Nat.le_trans Hc.out.2 (by decide)) Hb.out.1 Hc.out.1 (HT.out.2.2.2)).mono ?_
        rintro e w2 ⟨rfl, h⟩
        replace hB := hB.trans (h.mono hB.size)
        clear h
        go_wp2_with fail
        refine (compare_v (a := a) (b := c) (x := x) (y := z) (z := t) w2 (Nat.le_trans Ha.out.2 (by decide)) (Nat.le_trans Hc.out.2 (by decide)) Ha.out.1 Hc.out.1 (HT.out.2.1)).mono ?_
        rintro e w3 ⟨rfl, h⟩
        replace hB := hB.trans (h.mono hB.size)
        clear h
        go_wp2_with fail
        refine (compare_v (a := b) (b := a) (x := y) (y := x) (z := 1) w3 (Nat.le_trans Hb.out.2 (by decide)) (Nat.le_trans Ha.out.2 (by decide)) Hb.out.1 Ha.out.1 (by rw [cmp3_swap, HT.out.1]; rfl)).mono ?_
        rintro e w4 ⟨rfl, h⟩
        replace hB := hB.trans (h.mono hB.size)
        clear h
        go_wp2_with fail
        refine (canonical_v (a := a) (x := x) (z := x) w4 (Nat.le_trans Ha.out.2 (by decide)) Ha.out.1 rfl).mono ?_
        rintro e _ ⟨rfl, rfl⟩
        go_wp2_with fail
        refine (canonical_v (a := b) (x := y) (z := y) w4 (Nat.le_trans Hb.out.2 (by decide)) Hb.out.1 rfl).mono ?_
        rintro e _ ⟨rfl, rfl⟩
        go_wp2_with fail
        refine (compare_v (a := c) (b := ⟨#[]⟩) (x := z) (y := 0) (z := s) w4 (Nat.le_trans Hc.out.2 (by decide)) (by decide) Hc.out.1 vS_nil (HT.out.2.2.1)).mono ?_
        rintro e w5 ⟨rfl, h⟩
        replace hB := hB.trans (h.mono hB.size)
        clear h
        go_wp2_with fail
        refine (add_v (a := a) (b := c) (x := x) (y := z) (z := x + z) w5 (hG.below hB) (Nat.le_trans Ha.out.2 (by decide)) (Nat.le_trans Hc.out.2 (by decide)) Ha.out.1 Hc.out.1 (rfl)).mono ?_
        rintro e w6 ⟨rfl, h⟩
        replace hB := hB.trans (h.mono hB.size)
        clear h
        go_wp2_with fail
        refine (add_v (a := b) (b := c) (x := y) (y := z) (z := y + z) w6 (hG.below hB) (Nat.le_trans Hb.out.2 (by decide)) (Nat.le_trans Hc.out.2 (by decide)) Hb.out.1 Hc.out.1 (rfl)).mono ?_
        rintro e w7 ⟨rfl, h⟩
        replace hB := hB.trans (h.mono hB.size)
        clear h
        go_wp2_with fail
        refine (compare_v (a := (cS (x + z))) (b := (cS (y + z))) (x := x + z) (y := y + z) (z := -1) w7 (Cap.size (k := 61) (Cap.add (Cap.of Ha.out.2 Ha.out.1) (Cap.of Hc.out.2 Hc.out.1)) (by decide)) (Cap.size (k := 61) (Cap.add (Cap.of Hb.out.2 Hb.out.1) (Cap.of Hc.out.2 Hc.out.1)) (by decide)) (vS_cS _) (vS_cS _) ((cmp3_add x y z).trans HT.out.1)).mono ?_
        rintro e w8 ⟨rfl, h⟩
        replace hB := hB.trans (h.mono hB.size)
        clear h
        go_wp2_with fail
        refine (mul_v (a := a) (b := c) (x := x) (y := z) (z := x * z) w8 (hG.below hB) (Nat.le_trans Ha.out.2 (by decide)) (Nat.le_trans Hc.out.2 (by decide)) Ha.out.1 Hc.out.1 (rfl)).mono ?_
        rintro e w9 ⟨rfl, h⟩
        replace hB := hB.trans (h.mono hB.size)
        clear h
        go_wp2_with fail
        refine (mul_v (a := b) (b := c) (x := y) (y := z) (z := y * z) w9 (hG.below hB) (Nat.le_trans Hb.out.2 (by decide)) (Nat.le_trans Hc.out.2 (by decide)) Hb.out.1 Hc.out.1 (rfl)).mono ?_
        rintro e w10 ⟨rfl, h⟩
        replace hB := hB.trans (h.mono hB.size)
        clear h
        go_wp2_with fail
        refine (compare_v (a := (cS (x * z))) (b := (cS (y * z))) (x := x * z) (y := y * z) (z := -s) w10 (Cap.size (k := 120) (Cap.mul (Cap.of Ha.out.2 Ha.out.1) (Cap.of Hc.out.2 Hc.out.1)) (by decide)) (Cap.size (k := 120) (Cap.mul (Cap.of Hb.out.2 Hb.out.1) (Cap.of Hc.out.2 Hc.out.1)) (by decide)) (vS_cS _) (vS_cS _) ((cmp3_mul HT.out.1 HT.out.2.2.1).trans (by omega))).mono ?_
        rintro e w11 ⟨rfl, h⟩
        replace hB := hB.trans (h.mono hB.size)
        clear h
        go_wp2_with fail
        refine (sub_v (a := a) (b := b) (x := x) (y := y) (z := x - y) w11 (hG.below hB) (Nat.le_trans Ha.out.2 (by decide)) (Nat.le_trans Hb.out.2 (by decide)) Ha.out.1 Hb.out.1 (rfl)).mono ?_
        rintro e w12 ⟨rfl, h⟩
        replace hB := hB.trans (h.mono hB.size)
        clear h
        go_wp2_with fail
        refine (compare_v (a := (cS (x - y))) (b := ⟨#[]⟩) (x := x - y) (y := 0) (z := -1) w12 (Cap.size (k := 61) (Cap.sub (Cap.of Ha.out.2 Ha.out.1) (Cap.of Hb.out.2 Hb.out.1)) (by decide)) (by decide) (vS_cS _) vS_nil ((cmp3_sub x y).trans HT.out.1)).mono ?_
        rintro e w13 ⟨rfl, h⟩
        replace hB := hB.trans (h.mono hB.size)
        clear h
        go_wp2_with fail
        refine (awake_any w13 (hG.below hB)).mono ?_
        rintro e w14 ⟨rfl, h⟩
        replace hB := hB.trans (h.mono hB.size)
        clear h
        go_wp2_with fail
        go_ret
        exact ⟨rfl, hB⟩
    · by_cases he : d = 0
      · have HT := Lib.hid (And.intro hc (And.intro (cmp3_trans hc (hd.trans he)) (And.intro hsv (hd.trans he))))
        clear hc hd ht hsv he d t
        refine (compare_v (a := a) (b := b) (x := x) (y := y) (z := 0) W0 (Nat.le_trans Ha.out.2 (by decide)) (Nat.le_trans Hb.out.2 (by decide)) Ha.out.1 Hb.out.1 HT.out.1).mono ?_
        rintro e w1 ⟨rfl, h⟩
        replace hB := hB.trans (h.mono hB.size)
        clear h
        go_wp2_with fail
        refine (compare_v (a := b) (b := c) (x := y) (y := z) (z := 0) w1 (Nat.le_trans Hb.out.2 (by decide)) (Nat.le_trans Hc.out.2 (by decide)) Hb.out.1 Hc.out.1 (HT.out.2.2.2)).mono ?_
        rintro e w2 ⟨rfl, h⟩
        replace hB := hB.trans (h.mono hB.size)
        clear h
        go_wp2_with fail
        refine (compare_v (a := a) (b := c) (x := x) (y := z) (z := 0) w2 (Nat.le_trans Ha.out.2 (by decide)) (Nat.le_trans Hc.out.2 (by decide)) Ha.out.1 Hc.out.1 (HT.out.2.1)).mono ?_
        rintro e w3 ⟨rfl, h⟩
        replace hB := hB.trans (h.mono hB.size)
        clear h
        go_wp2_with fail
        refine (compare_v (a := b) (b := a) (x := y) (y := x) (z := 0) w3 (Nat.le_trans Hb.out.2 (by decide)) (Nat.le_trans Ha.out.2 (by decide)) Hb.out.1 Ha.out.1 (by rw [cmp3_swap, HT.out.1]; rfl)).mono ?_
        rintro e w4 ⟨rfl, h⟩
        replace hB := hB.trans (h.mono hB.size)
        clear h
        go_wp2_with fail
        refine (canonical_v (a := a) (x := x) (z := x) w4 (Nat.le_trans Ha.out.2 (by decide)) Ha.out.1 rfl).mono ?_
        rintro e _ ⟨rfl, rfl⟩
        go_wp2_with fail
        refine (canonical_v (a := b) (x := y) (z := x) w4 (Nat.le_trans Hb.out.2 (by decide)) Hb.out.1 (cmp3_eq_of HT.out.1).symm).mono ?_
        rintro e _ ⟨rfl, rfl⟩
        go_wp2_with fail
        refine (compare_v (a := c) (b := ⟨#[]⟩) (x := z) (y := 0) (z := s) w4 (Nat.le_trans Hc.out.2 (by decide)) (by decide) Hc.out.1 vS_nil (HT.out.2.2.1)).mono ?_
        rintro e w5 ⟨rfl, h⟩
        replace hB := hB.trans (h.mono hB.size)
        clear h
        go_wp2_with fail
        refine (add_v (a := a) (b := c) (x := x) (y := z) (z := x + z) w5 (hG.below hB) (Nat.le_trans Ha.out.2 (by decide)) (Nat.le_trans Hc.out.2 (by decide)) Ha.out.1 Hc.out.1 (rfl)).mono ?_
        rintro e w6 ⟨rfl, h⟩
        replace hB := hB.trans (h.mono hB.size)
        clear h
        go_wp2_with fail
        refine (add_v (a := b) (b := c) (x := y) (y := z) (z := y + z) w6 (hG.below hB) (Nat.le_trans Hb.out.2 (by decide)) (Nat.le_trans Hc.out.2 (by decide)) Hb.out.1 Hc.out.1 (rfl)).mono ?_
        rintro e w7 ⟨rfl, h⟩
        replace hB := hB.trans (h.mono hB.size)
        clear h
        go_wp2_with fail
        refine (compare_v (a := (cS (x + z))) (b := (cS (y + z))) (x := x + z) (y := y + z) (z := 0) w7 (Cap.size (k := 61) (Cap.add (Cap.of Ha.out.2 Ha.out.1) (Cap.of Hc.out.2 Hc.out.1)) (by decide)) (Cap.size (k := 61) (Cap.add (Cap.of Hb.out.2 Hb.out.1) (Cap.of Hc.out.2 Hc.out.1)) (by decide)) (vS_cS _) (vS_cS _) ((cmp3_add x y z).trans HT.out.1)).mono ?_
        rintro e w8 ⟨rfl, h⟩
        replace hB := hB.trans (h.mono hB.size)
        clear h
        go_wp2_with fail
        refine (mul_v (a := a) (b := c) (x := x) (y := z) (z := x * z) w8 (hG.below hB) (Nat.le_trans Ha.out.2 (by decide)) (Nat.le_trans Hc.out.2 (by decide)) Ha.out.1 Hc.out.1 (rfl)).mono ?_
        rintro e w9 ⟨rfl, h⟩
        replace hB := hB.trans (h.mono hB.size)
        clear h
        go_wp2_with fail
        refine (mul_v (a := b) (b := c) (x := y) (y := z) (z := y * z) w9 (hG.below hB) (Nat.le_trans Hb.out.2 (by decide)) (Nat.le_trans Hc.out.2 (by decide)) Hb.out.1 Hc.out.1 (rfl)).mono ?_
        rintro e w10 ⟨rfl, h⟩
        replace hB := hB.trans (h.mono hB.size)
        clear h
        go_wp2_with fail
        refine (compare_v (a := (cS (x * z))) (b := (cS (y * z))) (x := x * z) (y := y * z) (z := 0) w10 (Cap.size (k := 120) (Cap.mul (Cap.of Ha.out.2 Ha.out.1) (Cap.of Hc.out.2 Hc.out.1)) (by decide)) (Cap.size (k := 120) (Cap.mul (Cap.of Hb.out.2 Hb.out.1) (Cap.of Hc.out.2 Hc.out.1)) (by decide)) (vS_cS _) (vS_cS _) ((cmp3_mul HT.out.1 HT.out.2.2.1).trans (by omega))).mono ?_
        rintro e w11 ⟨rfl, h⟩
        replace hB := hB.trans (h.mono hB.size)
        clear h
        go_wp2_with fail
        refine (sub_v (a := a) (b := b) (x := x) (y := y) (z := x - y) w11 (hG.below hB) (Nat.le_trans Ha.out.2 (by decide)) (Nat.le_trans Hb.out.2 (by decide)) Ha.out.1 Hb.out.1 (rfl)).mono ?_
        rintro e w12 ⟨rfl, h⟩
        replace hB := hB.trans (h.mono hB.size)
        clear h
        go_wp2_with fail
        refine (compare_v (a := (cS (x - y))) (b := ⟨#[]⟩) (x := x - y) (y := 0) (z := 0) w12 (Cap.size (k := 61) (Cap.sub (Cap.of Ha.out.2 Ha.out.1) (Cap.of Hb.out.2 Hb.out.1)) (by decide)) (by decide) (vS_cS _) vS_nil ((cmp3_sub x y).trans HT.out.1)).mono ?_
        rintro e w13 ⟨rfl, h⟩
        replace hB := hB.trans (h.mono hB.size)
        clear h
        go_wp2_with fail
        refine (awake_any w13 (hG.below hB)).mono ?_
        rintro e w14 ⟨rfl, h⟩
        replace hB := hB.trans (h.mono hB.size)
        clear h
        go_wp2_with fail
        go_ret
        exact ⟨rfl, hB⟩
      · have hne : ((0 : Int) == d) = false := by rw [beq_eq_false_iff_ne]; exact fun h => he h.symm
        have HT := Lib.hid (And.intro hc (And.intro ht (And.intro hsv hd)))
        clear hc hd ht hsv he
        refine (compare_v (a := a) (b := b) (x := x) (y := y) (z := 0) W0 (Nat.le_trans Ha.out.2 (by decide)) (Nat.le_trans Hb.out.2 (by decide)) Ha.out.1 Hb.out.1 HT.out.1).mono ?_
        rintro e w1 ⟨rfl, h⟩
        replace hB := hB.trans (h.mono hB.size)
        clear h
        go_wp2_with fail
        refine (compare_v (a := b) (b := c) (x := y) (y := z) (z := d) w1 (Nat.le_trans Hb.out.2 (by decide)) (Nat.le_trans Hc.out.2 (by decide)) Hb.out.1 Hc.out.1 (HT.out.2.2.2)).mono ?_
        rintro e w2 ⟨rfl, h⟩
        replace hB := hB.trans (h.mono hB.size)
        clear h
        go_wp2_with fail
        refine (compare_v (a := a) (b := c) (x := x) (y := z) (z := t) w2 (Nat.le_trans Ha.out.2 (by decide)) (Nat.le_trans Hc.out.2 (by decide)) Ha.out.1 Hc.out.1 (HT.out.2.1)).mono ?_
        rintro e w3 ⟨rfl, h⟩
        replace hB := hB.trans (h.mono hB.size)
        clear h
        go_wp2_with fail
        refine (compare_v (a := b) (b := a) (x := y) (y := x) (z := 0) w3 (Nat.le_trans Hb.out.2 (by decide)) (Nat.le_trans Ha.out.2 (by decide)) Hb.out.1 Ha.out.1 (by rw [cmp3_swap, HT.out.1]; rfl)).mono ?_
        rintro e w4 ⟨rfl, h⟩
        replace hB := hB.trans (h.mono hB.size)
        clear h
        go_wp2_with fail
        refine (canonical_v (a := a) (x := x) (z := x) w4 (Nat.le_trans Ha.out.2 (by decide)) Ha.out.1 rfl).mono ?_
        rintro e _ ⟨rfl, rfl⟩
        go_wp2_with fail
        refine (canonical_v (a := b) (x := y) (z := x) w4 (Nat.le_trans Hb.out.2 (by decide)) Hb.out.1 (cmp3_eq_of HT.out.1).symm).mono ?_
        rintro e _ ⟨rfl, rfl⟩
        go_wp2_with fail
        refine (compare_v (a := c) (b := ⟨#[]⟩) (x := z) (y := 0) (z := s) w4 (Nat.le_trans Hc.out.2 (by decide)) (by decide) Hc.out.1 vS_nil (HT.out.2.2.1)).mono ?_
        rintro e w5 ⟨rfl, h⟩
        replace hB := hB.trans (h.mono hB.size)
        clear h
        go_wp2_with fail
        refine (add_v (a := a) (b := c) (x := x) (y := z) (z := x + z) w5 (hG.below hB) (Nat.le_trans Ha.out.2 (by decide)) (Nat.le_trans Hc.out.2 (by decide)) Ha.out.1 Hc.out.1 (rfl)).mono ?_
        rintro e w6 ⟨rfl, h⟩
        replace hB := hB.trans (h.mono hB.size)
        clear h
        go_wp2_with fail
        refine (add_v (a := b) (b := c) (x := y) (y := z) (z := y + z) w6 (hG.below hB) (Nat.le_trans Hb.out.2 (by decide)) (Nat.le_trans Hc.out.2 (by decide)) Hb.out.1 Hc.out.1 (rfl)).mono ?_
        rintro e w7 ⟨rfl, h⟩
        replace hB := hB.trans (h.mono hB.size)
        clear h
        go_wp2_with fail
        refine (compare_v (a := (cS (x + z))) (b := (cS (y + z))) (x := x + z) (y := y + z) (z := 0) w7 (Cap.size (k := 61) (Cap.add (Cap.of Ha.out.2 Ha.out.1) (Cap.of Hc.out.2 Hc.out.1)) (by decide)) (Cap.size (k := 61) (Cap.add (Cap.of Hb.out.2 Hb.out.1) (Cap.of Hc.out.2 Hc.out.1)) (by decide)) (vS_cS _) (vS_cS _) ((cmp3_add x y z).trans HT.out.1)).mono ?_
        rintro e w8 ⟨rfl, h⟩
        replace hB := hB.trans (h.mono hB.size)
        clear h
        go_wp2_with fail
        refine (mul_v (a := a) (b := c) (x := x) (y := z) (z := x * z) w8 (hG.below hB) (Nat.le_trans Ha.out.2 (by decide)) (Nat.le_trans Hc.out.2 (by decide)) Ha.out.1 Hc.out.1 (rfl)).mono ?_
        rintro e w9 ⟨rfl, h⟩
        replace hB := hB.trans (h.mono hB.size)
        clear h
        go_wp2_with fail
        refine (mul_v (a := b) (b := c) (x := y) (y := z) (z := y * z) w9 (hG.below hB) (Nat.le_trans Hb.out.2 (by decide)) (Nat.le_trans Hc.out.2 (by decide)) Hb.out.1 Hc.out.1 (rfl)).mono ?_
        rintro e w10 ⟨rfl, h⟩
        replace hB := hB.trans (h.mono hB.size)
        clear h
        go_wp2_with fail
        refine (compare_v (a := (cS (x * z))) (b := (cS (y * z))) (x := x * z) (y := y * z) (z := 0) w10 (Cap.size (k := 120) (Cap.mul (Cap.of Ha.out.2 Ha.out.1) (Cap.of Hc.out.2 Hc.out.1)) (by decide)) (Cap.size (k := 120) (Cap.mul (Cap.of Hb.out.2 Hb.out.1) (Cap.of Hc.out.2 Hc.out.1)) (by decide)) (vS_cS _) (vS_cS _) ((cmp3_mul HT.out.1 HT.out.2.2.1).trans (by omega))).mono ?_
        rintro e w11 ⟨rfl, h⟩
        replace hB := hB.trans (h.mono hB.size)
        clear h
        go_wp2_with fail
        refine (sub_v (a := a) (b := b) (x := x) (y := y) (z := x - y) w11 (hG.below hB) (Nat.le_trans Ha.out.2 (by decide)) (Nat.le_trans Hb.out.2 (by decide)) Ha.out.1 Hb.out.1 (rfl)).mono ?_
        rintro e w12 ⟨rfl, h⟩
        replace hB := hB.trans (h.mono hB.size)
        clear h
        go_wp2_with fail
        refine (compare_v (a := (cS (x - y))) (b := ⟨#[]⟩) (x := x - y) (y := 0) (z := 0) w12 (Cap.size (k := 61) (Cap.sub (Cap.of Ha.out.2 Ha.out.1) (Cap.of Hb.out.2 Hb.out.1)) (by decide)) (by decide) (vS_cS _) vS_nil ((cmp3_sub x y).trans HT.out.1)).mono ?_
        rintro e w13 ⟨rfl, h⟩
        replace hB := hB.trans (h.mono hB.size)
        clear h
        go_wp2_with fail
        refine (awake_any w13 (hG.below hB)).mono ?_
        rintro e w14 ⟨rfl, h⟩
        replace hB := hB.trans (h.mono hB.size)
        clear h
        go_wp2_with fail
        go_ret
        exact ⟨rfl, hB⟩
    · by_cases he : d = 1
      · have HT := Lib.hid (And.intro hc (And.intro (cmp3_trans hc (hd.trans he)) (And.intro hsv (hd.trans he))))
        clear hc hd ht hsv he d t
        have hbe := cS_beq_ne (x := x) (y := y) (by have := cmp3_gt_of HT.out.1; omega)
        refine (compare_v (a := a) (b := b) (x := x) (y := y) (z := 1) W0 (Nat.le_trans Ha.out.2 (by decide)) (Nat.le_trans Hb.out.2 (by decide)) Ha.out.1 Hb.out.1 HT.out.1).mono ?_
        rintro e w1 ⟨rfl, h⟩
        replace hB := hB.trans (h.mono hB.size)
        clear h
        go_wp2_with fail
        refine (compare_v (a := b) (b := c) (x := y) (y := z) (z := 1) w1 (Nat.le_trans Hb.out.2 (by decide)) (Nat.le_trans Hc.out.2 (by decide)) Hb.out.1 Hc.out.1 (HT.out.2.2.2)).mono ?_
        rintro e w2 ⟨rfl, h⟩
        replace hB := hB.trans (h.mono hB.size)
        clear h
        go_wp2_with fail
        refine (compare_v (a := a) (b := c) (x := x) (y := z) (z := 1) w2 (Nat.le_trans Ha.out.2 (by decide)) (Nat.le_trans Hc.out.2 (by decide)) Ha.out.1 Hc.out.1 (HT.out.2.1)).mono ?_
        rintro e w3 ⟨rfl, h⟩
        replace hB := hB.trans (h.mono hB.size)
        clear h
        go_wp2_with fail
        refine (compare_v (a := b) (b := a) (x := y) (y := x) (z := -1) w3 (Nat.le_trans Hb.out.2 (by decide)) (Nat.le_trans Ha.out.2 (by decide)) Hb.out.1 Ha.out.1 (by rw [cmp3_swap, HT.out.1])).mono ?_
        rintro e w4 ⟨rfl, h⟩
        replace hB := hB.trans (h.mono hB.size)
        clear h
        go_wp2_with fail
        refine (canonical_v (a := a) (x := x) (z := x) w4 (Nat.le_trans Ha.out.2 (by decide)) Ha.out.1 rfl).mono ?_
        rintro e _ ⟨rfl, rfl⟩
        go_wp2_with fail
        refine (canonical_v (a := b) (x := y) (z := y) w4 (Nat.le_trans Hb.out.2 (by decide)) Hb.out.1 rfl).mono ?_
        rintro e _ ⟨rfl, rfl⟩
        go_wp2_with fail
        refine (compare_v (a := c) (b := ⟨#[]⟩) (x := z) (y := 0) (z := s) w4 (Nat.le_trans Hc.out.2 (by decide)) (by decide) Hc.out.1 vS_nil (HT.out.2.2.1)).mono ?_
        rintro e w5 ⟨rfl, h⟩
        replace hB := hB.trans (h.mono hB.size)
        clear h
        go_wp2_with fail
        refine (add_v (a := a) (b := c) (x := x) (y := z) (z := x + z) w5 (hG.below hB) (Nat.le_trans Ha.out.2 (by decide)) (Nat.le_trans Hc.out.2 (by decide)) Ha.out.1 Hc.out.1 (rfl)).mono ?_
        rintro e w6 ⟨rfl, h⟩
        replace hB := hB.trans (h.mono hB.size)
        clear h
        go_wp2_with fail
        refine (add_v (a := b) (b := c) (x := y) (y := z) (z := y + z) w6 (hG.below hB) (Nat.le_trans Hb.out.2 (by decide)) (Nat.le_trans Hc.out.2 (by decide)) Hb.out.1 Hc.out.1 (rfl)).mono ?_
        rintro e w7 ⟨rfl, h⟩
        replace hB := hB.trans (h.mono hB.size)
        clear h
        go_wp2_with fail
        refine (compare_v (a := (cS (x + z))) (b := (cS (y + z))) (x := x + z) (y := y + z) (z := 1) w7 (Cap.size (k := 61) (Cap.add (Cap.of Ha.out.2 Ha.out.1) (Cap.of Hc.out.2 Hc.out.1)) (by decide)) (Cap.size (k := 61) (Cap.add (Cap.of Hb.out.2 Hb.out.1) (Cap.of Hc.out.2 Hc.out.1)) (by decide)) (vS_cS _) (vS_cS _) ((cmp3_add x y z).trans HT.out.1)).mono ?_
        rintro e w8 ⟨rfl, h⟩
        replace hB := hB.trans (h.mono hB.size)
        clear h
        go_wp2_with fail
        refine (mul_v (a := a) (b := c) (x := x) (y := z) (z := x * z) w8 (hG.below hB) (Nat.le_trans Ha.out.2 (by decide)) (Nat.le_trans Hc.out.2 (by decide)) Ha.out.1 Hc.out.1 (rfl)).mono ?_
        rintro e w9 ⟨rfl, h⟩
        replace hB := hB.trans (h.mono hB.size)
        clear h
        go_wp2_with fail
        refine (mul_v (a := b) (b := c) (x := y) (y := z) (z := y * z) w9 (hG.below hB) (Nat.le_trans Hb.out.2 (by decide)) (Nat.le_trans Hc.out.2 (by decide)) Hb.out.1 Hc.out.1 (rfl)).mono ?_
        rintro e w10 ⟨rfl, h⟩
        replace hB := hB.trans (h.mono hB.size)
        clear h
        go_wp2_with fail
        refine (compare_v (a := (cS (x * z))) (b := (cS (y * z))) (x := x * z) (y := y * z) (z := s) w10 (Cap.size (k := 120) (Cap.mul (Cap.of Ha.out.2 Ha.out.1) (Cap.of Hc.out.2 Hc.out.1)) (by decide)) (Cap.size (k := 120) (Cap.mul (Cap.of Hb.out.2 Hb.out.1) (Cap.of Hc.out.2 Hc.out.1)) (by decide)) (vS_cS _) (vS_cS _) ((cmp3_mul HT.out.1 HT.out.2.2.1).trans (by omega))).mono ?_
        rintro e w11 ⟨rfl, h⟩
        replace hB := hB.trans (h.mono hB.size)
        clear h
        go_wp2_with fail
        refine (sub_v (a := a) (b := b) (x := x) (y := y) (z := x - y) w11 (hG.below hB) (Nat.le_trans Ha.out.2 (by decide)) (Nat.le_trans Hb.out.2 (by decide)) Ha.out.1 Hb.out.1 (rfl)).mono ?_
        rintro e w12 ⟨rfl, h⟩
        replace hB := hB.trans (h.mono hB.size)
        clear h
        go_wp2_with fail
        refine (compare_v (a := (cS (x - y))) (b := ⟨#[]⟩) (x := x - y) (y := 0) (z := 1) w12 (Cap.size (k := 61) (Cap.sub (Cap.of Ha.out.2 Ha.out.1) (Cap.of Hb.out.2 Hb.out.1)) (by decide)) (by decide) (vS_cS _) vS_nil ((cmp3_sub x y).trans HT.out.1)).mono ?_
        rintro e w13 ⟨rfl, h⟩
        replace hB := hB.trans (h.mono hB.size)
        clear h
        go_wp2_with fail
        refine (awake_any w13 (hG.below hB)).mono ?_
        rintro e w14 ⟨rfl, h⟩
        replace hB := hB.trans (h.mono hB.size)
        clear h
        go_wp2_with fail
        go_ret
        exact ⟨rfl, hB⟩
      · have hne : ((1 : Int) == d) = false := by rw [beq_eq_false_iff_ne]; exact fun h => he h.symm
        have HT := Lib.hid (And.intro hc (And.intro ht (And.intro hsv hd)))
        clear hc hd ht hsv he
        have hbe := cS_beq_ne (x := x) (y := y) (by have := cmp3_gt_of HT.out.1; omega)
        refine (compare_v (a := a) (b := b) (x := x) (y := y) (z := 1) W0 (Nat.le_trans Ha.out.2 (by decide)) (Nat.le_trans Hb.out.2 (by decide)) Ha.out.1 Hb.out.1 HT.out.1).mono ?_
        rintro e w1 ⟨rfl, h⟩
        replace hB := hB.trans (h.mono hB.size)
        clear h
        go_wp2_with fail
        refine (compare_v (a := b) (b := c) (x := y) (y := z) (z := d) w1 (Nat.le_trans Hb.out.2 (by decide)) (Nat.le_trans Hc.out.2 (by decide)) Hb.out.1 Hc.out.1 (HT.out.2.2.2)).mono ?_
        rintro e w2 ⟨rfl, h⟩
        replace hB := hB.trans (h.mono hB.size)
        clear h
        go_wp2_with fail
        refine (compare_v (a := a) (b := c) (x := x) (y := z) (z := t) w2 (Nat.le_trans Ha.out.2 (by decide)) (Nat.le_trans Hc.out.2 (by decide)) Ha.out.1 Hc.out.1 (HT.out.2.1)).mono ?_
        rintro e w3 ⟨rfl, h⟩
        replace hB := hB.trans (h.mono hB.size)
        clear h
        go_wp2_with fail
        refine (compare_v (a := b) (b := a) (x := y) (y := x) (z := -1) w3 (Nat.le_trans Hb.out.2 (by decide)) (Nat.le_trans Ha.out.2 (by decide)) Hb.out.1 Ha.out.1 (by rw [cmp3_swap, HT.out.1])).mono ?_
        rintro e w4 ⟨rfl, h⟩
        replace hB := hB.trans (h.mono hB.size)
        clear h
        go_wp2_with fail
        refine (canonical_v (a := a) (x := x) (z := x) w4 (Nat.le_trans Ha.out.2 (by decide)) Ha.out.1 rfl).mono ?_
        rintro e _ ⟨rfl, rfl⟩
        go_wp2_with fail
        refine (canonical_v (a := b) (x := y) (z := y) w4 (Nat.le_trans Hb.out.2 (by decide)) Hb.out.1 rfl).mono ?_
        rintro e _ ⟨rfl, rfl⟩
        go_wp2_with fail
        refine (compare_v (a := c) (b := ⟨#[]⟩) (x := z) (y := 0) (z := s) w4 (Nat.le_trans Hc.out.2 (by decide)) (by decide) Hc.out.1 vS_nil (HT.out.2.2.1)).mono ?_
        rintro e w5 ⟨rfl, h⟩
        replace hB := hB.trans (h.mono hB.size)
        clear h
        go_wp2_with fail
        refine (add_v (a := a) (b := c) (x := x) (y := z) (z := x + z) w5 (hG.below hB) (Nat.le_trans Ha.out.2 (by decide)) (Nat.le_trans Hc.out.2 (by decide)) Ha.out.1 Hc.out.1 (rfl)).mono ?_
        rintro e w6 ⟨rfl, h⟩
        replace hB := hB.trans (h.mono hB.size)
        clear h
        go_wp2_with fail
        refine (add_v (a := b) (b := c) (x := y) (y := z) (z := y + z) w6 (hG.below hB) (Nat.le_trans Hb.out.2 (by decide)) (Nat.le_trans Hc.out.2 (by decide)) Hb.out.1 Hc.out.1 (rfl)).mono ?_
        rintro e w7 ⟨rfl, h⟩
        replace hB := hB.trans (h.mono hB.size)
        clear h
        go_wp2_with fail
        refine (compare_v (a := (cS (x + z))) (b := (cS (y + z))) (x := x + z) (y := y + z) (z := 1) w7 (Cap.size (k := 61) (Cap.add (Cap.of Ha.out.2 Ha.out.1) (Cap.of Hc.out.2 Hc.out.1)) (by decide)) (Cap.size (k := 61) (Cap.add (Cap.of Hb.out.2 Hb.out.1) (Cap.of Hc.out.2 Hc.out.1)) (by decide)) (vS_cS _) (vS_cS _) ((cmp3_add x y z).trans HT.out.1)).mono ?_
        rintro e w8 ⟨rfl, h⟩
        replace hB := hB.trans (h.mono hB.size)
        clear h
        go_wp2_with fail
        refine (mul_v (a := a) (b := c) (x := x) (y := z) (z := x * z) w8 (hG.below hB) (Nat.le_trans Ha.out.2 (by decide)) (Nat.le_trans Hc.out.2 (by decide)) Ha.out.1 Hc.out.1 (rfl)).mono ?_
        rintro e w9 ⟨rfl, h⟩
        replace hB := hB.trans (h.mono hB.size)
        clear h
        go_wp2_with fail
        refine (mul_v (a := b) (b := c) (x := y) (y := z) (z := y * z) w9 (hG.below hB) (Nat.le_trans Hb.out.2 (by decide)) (Nat.le_trans Hc.out.2 (by decide)) Hb.out.1 Hc.out.1 (rfl)).mono ?_
        rintro e w10 ⟨rfl, h⟩
        replace hB := hB.trans (h.mono hB.size)
        clear h
        go_wp2_with fail
        refine (compare_v (a := (cS (x * z))) (b := (cS (y * z))) (x := x * z) (y := y * z) (z := s) w10 (Cap.size (k := 120) (Cap.mul (Cap.of Ha.out.2 Ha.out.1) (Cap.of Hc.out.2 Hc.out.1)) (by decide)) (Cap.size (k := 120) (Cap.mul (Cap.of Hb.out.2 Hb.out.1) (Cap.of Hc.out.2 Hc.out.1)) (by decide)) (vS_cS _) (vS_cS _) ((cmp3_mul HT.out.1 HT.out.2.2.1).trans (by omega))).mono ?_
        rintro e w11 ⟨rfl, h⟩
        replace hB := hB.trans (h.mono hB.size)
        clear h
        go_wp2_with fail
        refine (sub_v (a := a) (b := b) (x := x) (y := y) (z := x - y) w11 (hG.below hB) (Nat.le_trans Ha.out.2 (by decide)) (Nat.le_trans Hb.out.2 (by decide)) Ha.out.1 Hb.out.1 (rfl)).mono ?_
        rintro e w12 ⟨rfl, h⟩
        replace hB := hB.trans (h.mono hB.size)
        clear h
        go_wp2_with fail
        refine (compare_v (a := (cS (x - y))) (b := ⟨#[]⟩) (x := x - y) (y := 0) (z := 1) w12 (Cap.size (k := 61) (Cap.sub (Cap.of Ha.out.2 Ha.out.1) (Cap.of Hb.out.2 Hb.out.1)) (by decide)) (by decide) (vS_cS _) vS_nil ((cmp3_sub x y).trans HT.out.1)).mono ?_
        rintro e w13 ⟨rfl, h⟩
        replace hB := hB.trans (h.mono hB.size)
        clear h
        go_wp2_with fail
        refine (awake_any w13 (hG.below hB)).mono ?_
        rintro e w14 ⟨rfl, h⟩
        replace hB := hB.trans (h.mono hB.size)
        clear h
        go_wp2_with fail
        go_ret
        exact ⟨rfl, hB⟩
  · have hl : long [a, b, c] = true := by
      by_cases h1 : a.size ≤ 60
      · by_cases h2 : b.size ≤ 60
        · exact long_true (s := c) (by simp) (by omega)
        · exact long_true (s := b) (by simp) (by omega)
      · exact long_true (s := a) (by simp) (by omega)
    have HL := Lib.hid hl
    clear hl
    go_enter Tryd.func7, Tryd.ntmps7
    go_wp2_with fail
    obtain ⟨W0, hW0⟩ : ∃ W0, W0 = w.alloc (.cells #[.string a, .string b, .string c] 22) := ⟨_, rfl⟩
    have hc0 : ∀ i, i < 3 → W0.cell? ⟨w.heap.size, i, none⟩ = some (.string ([a, b, c].getD i ⟨#[]⟩)) := by rw [hW0]; exact great_cells w [a, b, c]
    have hB : Below w.heap.size w W0 := by rw [hW0]; exact (Below.refl _ w).alloc (Nat.le_refl _) _
    rw [← hW0]
    clear hW0
    refine (great_any W0 w.heap.size 3 [a, b, c] rfl (by decide) hc0).mono ?_
    rintro e _ ⟨rfl, rfl⟩
    clear hc0
    rw [HL.out]
    go_wp2_with fail
    refine (awake_any W0 (hG.below hB)).mono ?_
    rintro e w1 ⟨rfl, h⟩
    replace hB := hB.trans (h.mono hB.size)
    clear h
    go_wp2_with fail
    go_ret
    exact ⟨rfl, hB⟩

end Go.Proofs.YtaopneanfflbcaaDoor
