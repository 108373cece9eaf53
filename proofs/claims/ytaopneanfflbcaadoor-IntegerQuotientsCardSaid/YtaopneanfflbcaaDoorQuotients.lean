/- the law IntegerQuotients: the walk. -/
import Derived.Test.YtaopneanfflbcaaDoorLaw
namespace Go.Proofs.YtaopneanfflbcaaDoor
open Go.RowKit

theorem cap_fdiv {k : Nat} {x y : Int} (hx : Cap k x) (hy : y ≠ 0) : Cap k (Int.fdiv x y) := by
  unfold Cap at *
  rcases Int.lt_or_gt_of_ne hy with h | h
  · rw [← Int.neg_fdiv_neg, Int.fdiv_eq_ediv_of_nonneg _ (by omega)]
    have := Int.natAbs_ediv_le_natAbs (-x) (-y)
    omega
  · rw [Int.fdiv_eq_ediv_of_nonneg _ (by omega)]
    have := Int.natAbs_ediv_le_natAbs x y
    omega
theorem fmod_pos {x y : Int} (h : 0 < y) : 0 ≤ Int.fmod x y ∧ Int.fmod x y < y := ⟨Int.fmod_nonneg_of_pos x h, Int.fmod_lt_of_pos x h⟩
theorem fmod_neg {x y : Int} (h : y < 0) : y < Int.fmod x y ∧ Int.fmod x y ≤ 0 := by
  have h1 := Int.fmod_nonneg_of_pos (-x) (b := -y) (by omega)
  have h2 := Int.fmod_lt_of_pos (-x) (b := -y) (by omega)
  rw [Int.neg_fmod_neg] at h1 h2
  omega
theorem fdiv_fmod (x y : Int) : Int.fdiv x y * y + Int.fmod x y = x := by
  have := Int.fmod_add_mul_fdiv x y
  rw [Int.mul_comm y] at this
  omega

set_option maxRecDepth 100000 in
set_option maxHeartbeats 8000000 in
theorem quotients_any (a b : ByteArray) (w : World) (hG : Ground w) :
    Calls Tryd.prog 8 #[.string a, .string b] w fun e w' => e = .returned (.bool true) ∧ Below w.heap.size w w' := by
  by_cases hs : a.size ≤ 60 ∧ b.size ≤ 60
  · obtain ⟨h1, h2⟩ := hs
    have hl : long [a, b] = false := long_false (by simp; omega)
    obtain ⟨x, hx⟩ : ∃ x, vS a = x := ⟨_, rfl⟩
    obtain ⟨y, hy⟩ : ∃ y, vS b = y := ⟨_, rfl⟩
    have Ha := Lib.hid (And.intro hx h1)
    have Hb := Lib.hid (And.intro hy h2)
    clear hx hy h1 h2
    have HL := Lib.hid hl
    clear hl
    go_enter Tryd.func8, Tryd.ntmps8
    go_wp2_with fail
    obtain ⟨W0, hW0⟩ : ∃ W0, W0 = w.alloc (.cells #[.string a, .string b] 22) := ⟨_, rfl⟩
    have hc0 : ∀ i, i < 2 → W0.cell? ⟨w.heap.size, i, none⟩ = some (.string ([a, b].getD i ⟨#[]⟩)) := by rw [hW0]; exact great_cells w [a, b]
    have hB : Below w.heap.size w W0 := by rw [hW0]; exact (Below.refl _ w).alloc (Nat.le_refl _) _
    rw [← hW0]
    clear hW0
    refine (great_any W0 w.heap.size 2 [a, b] rfl (by decide) hc0).mono ?_
    rintro e _ ⟨rfl, rfl⟩
    clear hc0
    rw [HL.out]
    go_wp2_with fail
    rcases Int.lt_trichotomy y 0 with hy | hy | hy
    · have hf := fmod_neg (x := x) hy
      have hd := fdiv_fmod x y
      have hcq := cap_fdiv (Cap.of Ha.out.2 Ha.out.1) (y := y) (by omega)
      have hyc := Cap.of Hb.out.2 Hb.out.1
      have hcr : Cap 60 (Int.fmod x y) := by unfold Cap at *; omega
      have hy0 : y ≠ 0 := by omega
      have HD := Lib.hid (And.intro hy (And.intro hf (And.intro hd hy0)))
      have HCQ := Lib.hid hcq
      have HCR := Lib.hid hcr
      clear hf hd hcq hcr hyc hy hy0
      obtain ⟨q, hq⟩ : ∃ q, Int.fdiv x y = q := ⟨_, rfl⟩
      obtain ⟨r, hr⟩ : ∃ r, Int.fmod x y = r := ⟨_, rfl⟩
      refine (div_v (a := a) (b := b) (x := x) (y := y) (q := q) (r := r) W0 (hG.below hB) (Nat.le_trans Ha.out.2 (by decide)) (Nat.le_trans Hb.out.2 (by decide)) Ha.out.1 Hb.out.1 HD.out.2.2.2 hq hr).mono ?_
      rintro e w1 ⟨rfl, h⟩
      replace hB := hB.trans (h.mono hB.size)
      clear h
      rw [hq] at HD HCQ
      rw [hr] at HD HCR
      clear hq hr
      go_wp2_with fail
      refine (compare_v (a := b) (b := ⟨#[]⟩) (x := y) (y := 0) (z := -1) w1 (Nat.le_trans Hb.out.2 (by decide)) (by decide) Hb.out.1 vS_nil (cmp3_lt HD.out.1)).mono ?_
      rintro e w2 ⟨rfl, h⟩
      replace hB := hB.trans (h.mono hB.size)
      clear h
      go_wp2_with fail
      refine (mul_v (a := (cS (q))) (b := b) (x := q) (y := y) (z := q * y) w2 (hG.below hB) (Cap.size (k := 60) HCQ.out (by decide)) (Nat.le_trans Hb.out.2 (by decide)) (vS_cS _) Hb.out.1 (rfl)).mono ?_
      rintro e w3 ⟨rfl, h⟩
      replace hB := hB.trans (h.mono hB.size)
      clear h
      go_wp2_with fail
      refine (add_v (a := (cS (q * y))) (b := (cS (r))) (x := q * y) (y := r) (z := x) w3 (hG.below hB) (Cap.size (k := 120) (Cap.mul HCQ.out (Cap.of Hb.out.2 Hb.out.1)) (by decide)) (Cap.size (k := 60) HCR.out (by decide)) (vS_cS _) (vS_cS _) (HD.out.2.2.1)).mono ?_
      rintro e w4 ⟨rfl, h⟩
      replace hB := hB.trans (h.mono hB.size)
      clear h
      go_wp2_with fail
      refine (canonical_v (a := a) (x := x) (z := x) w4 (Nat.le_trans Ha.out.2 (by decide)) Ha.out.1 rfl).mono ?_
      rintro e _ ⟨rfl, rfl⟩
      go_wp2_with fail
      refine (check_v (z := q) w4 (Cap.size (k := 60) HCQ.out (by decide))).mono ?_
      rintro e _ ⟨rfl, rfl⟩
      go_wp2_with fail
      by_cases hr0 : r = 0
      · have HR0 := Lib.hid hr0
        clear hr0
        refine (compare_v (a := (cS (r))) (b := ⟨#[]⟩) (x := r) (y := 0) (z := 0) w4 (Cap.size (k := 60) HCR.out (by decide)) (by decide) (vS_cS _) vS_nil (cmp3_eq HR0.out)).mono ?_
        rintro e w5 ⟨rfl, h⟩
        replace hB := hB.trans (h.mono hB.size)
        clear h
        go_wp2_with fail
        refine (sub_v (a := b) (b := (cS (r))) (x := y) (y := r) (z := y - r) w5 (hG.below hB) (Nat.le_trans Hb.out.2 (by decide)) (Cap.size (k := 60) HCR.out (by decide)) Hb.out.1 (vS_cS _) (rfl)).mono ?_
        rintro e w6 ⟨rfl, h⟩
        replace hB := hB.trans (h.mono hB.size)
        clear h
        go_wp2_with fail
        refine (compare_v (a := (cS (y - r))) (b := ⟨#[]⟩) (x := y - r) (y := 0) (z := -1) w6 (Cap.size (k := 61) (Cap.sub (Cap.of Hb.out.2 Hb.out.1) HCR.out) (by decide)) (by decide) (vS_cS _) vS_nil (cmp3_lt (by have := HD.out.2.1; omega))).mono ?_
        rintro e w7 ⟨rfl, h⟩
        replace hB := hB.trans (h.mono hB.size)
        clear h
        go_wp2_with fail
        refine (awake_any w7 (hG.below hB)).mono ?_
        rintro e w8 ⟨rfl, h⟩
        replace hB := hB.trans (h.mono hB.size)
        clear h
        go_wp2_with fail
        go_ret
        exact ⟨rfl, hB⟩
      · have HR0 := Lib.hid hr0
        clear hr0
        refine (compare_v (a := (cS (r))) (b := ⟨#[]⟩) (x := r) (y := 0) (z := -1) w4 (Cap.size (k := 60) HCR.out (by decide)) (by decide) (vS_cS _) vS_nil (cmp3_lt (by have := HD.out.2.1; have := HR0.out; omega))).mono ?_
        rintro e w5 ⟨rfl, h⟩
        replace hB := hB.trans (h.mono hB.size)
        clear h
        go_wp2_with fail
        refine (sub_v (a := b) (b := (cS (r))) (x := y) (y := r) (z := y - r) w5 (hG.below hB) (Nat.le_trans Hb.out.2 (by decide)) (Cap.size (k := 60) HCR.out (by decide)) Hb.out.1 (vS_cS _) (rfl)).mono ?_
        rintro e w6 ⟨rfl, h⟩
        replace hB := hB.trans (h.mono hB.size)
        clear h
        go_wp2_with fail
        refine (compare_v (a := (cS (y - r))) (b := ⟨#[]⟩) (x := y - r) (y := 0) (z := -1) w6 (Cap.size (k := 61) (Cap.sub (Cap.of Hb.out.2 Hb.out.1) HCR.out) (by decide)) (by decide) (vS_cS _) vS_nil (cmp3_lt (by have := HD.out.2.1; omega))).mono ?_
        rintro e w7 ⟨rfl, h⟩
        replace hB := hB.trans (h.mono hB.size)
        clear h
        go_wp2_with fail
        refine (awake_any w7 (hG.below hB)).mono ?_
        rintro e w8 ⟨rfl, h⟩
        replace hB := hB.trans (h.mono hB.size)
        clear h
        go_wp2_with fail
        go_ret
        exact ⟨rfl, hB⟩
    · refine (div_zero a b W0 (le_big (Nat.le_trans Ha.out.2 (by decide))) (le_big (Nat.le_trans Hb.out.2 (by decide))) (by rw [Hb.out.1, hy])).mono ?_
      rintro e w1 ⟨rfl, h⟩
      replace hB := hB.trans (h.mono hB.size)
      clear h
      go_wp2_with fail
      refine (compare_v (a := b) (b := ⟨#[]⟩) (x := y) (y := 0) (z := 0) w1 (Nat.le_trans Hb.out.2 (by decide)) (by decide) Hb.out.1 vS_nil (cmp3_eq hy)).mono ?_
      rintro e w2 ⟨rfl, h⟩
      replace hB := hB.trans (h.mono hB.size)
      clear h
      go_wp2_with fail
      refine (awake_any w2 (hG.below hB)).mono ?_
      rintro e w3 ⟨rfl, h⟩
      replace hB := hB.trans (h.mono hB.size)
      clear h
      go_wp2_with fail
      go_ret
      exact ⟨rfl, hB⟩
    · have hf := fmod_pos (x := x) hy
      have hd := fdiv_fmod x y
      have hcq := cap_fdiv (Cap.of Ha.out.2 Ha.out.1) (y := y) (by omega)
      have hyc := Cap.of Hb.out.2 Hb.out.1
      have hcr : Cap 60 (Int.fmod x y) := by unfold Cap at *; omega
      have hy0 : y ≠ 0 := by omega
      have HD := Lib.hid (And.intro hy (And.intro hf (And.intro hd hy0)))
      have HCQ := Lib.hid hcq
      have HCR := Lib.hid hcr
      clear hf hd hcq hcr hyc hy hy0
      obtain ⟨q, hq⟩ : ∃ q, Int.fdiv x y = q := ⟨_, rfl⟩
      obtain ⟨r, hr⟩ : ∃ r, Int.fmod x y = r := ⟨_, rfl⟩
      refine (div_v (a := a) (b := b) (x := x) (y := y) (q := q) (r := r) W0 (hG.below hB) (Nat.le_trans Ha.out.2 (by decide)) (Nat.le_trans Hb.out.2 (by decide)) Ha.out.1 Hb.out.1 HD.out.2.2.2 hq hr).mono ?_
      rintro e w1 ⟨rfl, h⟩
      replace hB := hB.trans (h.mono hB.size)
      clear h
      rw [hq] at HD HCQ
      rw [hr] at HD HCR
      clear hq hr
      go_wp2_with fail
      refine (compare_v (a := b) (b := ⟨#[]⟩) (x := y) (y := 0) (z := 1) w1 (Nat.le_trans Hb.out.2 (by decide)) (by decide) Hb.out.1 vS_nil (cmp3_gt HD.out.1)).mono ?_
      rintro e w2 ⟨rfl, h⟩
      replace hB := hB.trans (h.mono hB.size)
      clear h
      go_wp2_with fail
      refine (mul_v (a := (cS (q))) (b := b) (x := q) (y := y) (z := q * y) w2 (hG.below hB) (Cap.size (k := 60) HCQ.out (by decide)) (Nat.le_trans Hb.out.2 (by decide)) (vS_cS _) Hb.out.1 (rfl)).mono ?_
      rintro e w3 ⟨rfl, h⟩
      replace hB := hB.trans (h.mono hB.size)
      clear h
      go_wp2_with fail
      refine (add_v (a := (cS (q * y))) (b := (cS (r))) (x := q * y) (y := r) (z := x) w3 (hG.below hB) (Cap.size (k := 120) (Cap.mul HCQ.out (Cap.of Hb.out.2 Hb.out.1)) (by decide)) (Cap.size (k := 60) HCR.out (by decide)) (vS_cS _) (vS_cS _) (HD.out.2.2.1)).mono ?_
      rintro e w4 ⟨rfl, h⟩
      replace hB := hB.trans (h.mono hB.size)
      clear h
      go_wp2_with fail
      refine (canonical_v (a := a) (x := x) (z := x) w4 (Nat.le_trans Ha.out.2 (by decide)) Ha.out.1 rfl).mono ?_
      rintro e _ ⟨rfl, rfl⟩
      go_wp2_with fail
      refine (check_v (z := q) w4 (Cap.size (k := 60) HCQ.out (by decide))).mono ?_
      rintro e _ ⟨rfl, rfl⟩
      go_wp2_with fail
      by_cases hr0 : r = 0
      · have HR0 := Lib.hid hr0
        clear hr0
        refine (compare_v (a := (cS (r))) (b := ⟨#[]⟩) (x := r) (y := 0) (z := 0) w4 (Cap.size (k := 60) HCR.out (by decide)) (by decide) (vS_cS _) vS_nil (cmp3_eq HR0.out)).mono ?_
        rintro e w5 ⟨rfl, h⟩
        replace hB := hB.trans (h.mono hB.size)
        clear h
        go_wp2_with fail
        refine (sub_v (a := b) (b := (cS (r))) (x := y) (y := r) (z := y - r) w5 (hG.below hB) (Nat.le_trans Hb.out.2 (by decide)) (Cap.size (k := 60) HCR.out (by decide)) Hb.out.1 (vS_cS _) (rfl)).mono ?_
        rintro e w6 ⟨rfl, h⟩
        replace hB := hB.trans (h.mono hB.size)
        clear h
        go_wp2_with fail
        refine (compare_v (a := (cS (y - r))) (b := ⟨#[]⟩) (x := y - r) (y := 0) (z := 1) w6 (Cap.size (k := 61) (Cap.sub (Cap.of Hb.out.2 Hb.out.1) HCR.out) (by decide)) (by decide) (vS_cS _) vS_nil (cmp3_gt (by have := HD.out.2.1; omega))).mono ?_
        rintro e w7 ⟨rfl, h⟩
        replace hB := hB.trans (h.mono hB.size)
        clear h
        go_wp2_with fail
        refine (awake_any w7 (hG.below hB)).mono ?_
        rintro e w8 ⟨rfl, h⟩
        replace hB := hB.trans (h.mono hB.size)
        clear h
        go_wp2_with fail
        go_ret
        exact ⟨rfl, hB⟩
      · have HR0 := Lib.hid hr0
        clear hr0
        refine (compare_v (a := (cS (r))) (b := ⟨#[]⟩) (x := r) (y := 0) (z := 1) w4 (Cap.size (k := 60) HCR.out (by decide)) (by decide) (vS_cS _) vS_nil (cmp3_gt (by have := HD.out.2.1; have := HR0.out; omega))).mono ?_
        rintro e w5 ⟨rfl, h⟩
        replace hB := hB.trans (h.mono hB.size)
        clear h
        go_wp2_with fail
        refine (sub_v (a := b) (b := (cS (r))) (x := y) (y := r) (z := y - r) w5 (hG.below hB) (Nat.le_trans Hb.out.2 (by decide)) (Cap.size (k := 60) HCR.out (by decide)) Hb.out.1 (vS_cS _) (rfl)).mono ?_
        rintro e w6 ⟨rfl, h⟩
        replace hB := hB.trans (h.mono hB.size)
        clear h
        go_wp2_with fail
        refine (compare_v (a := (cS (y - r))) (b := ⟨#[]⟩) (x := y - r) (y := 0) (z := 1) w6 (Cap.size (k := 61) (Cap.sub (Cap.of Hb.out.2 Hb.out.1) HCR.out) (by decide)) (by decide) (vS_cS _) vS_nil (cmp3_gt (by have := HD.out.2.1; omega))).mono ?_
        rintro e w7 ⟨rfl, h⟩
        replace hB := hB.trans (h.mono hB.size)
        clear h
        go_wp2_with fail
        refine (awake_any w7 (hG.below hB)).mono ?_
        rintro e w8 ⟨rfl, h⟩
        replace hB := hB.trans (h.mono hB.size)
        clear h
        go_wp2_with fail
        go_ret
        exact ⟨rfl, hB⟩
  · have hl : long [a, b] = true := by
      by_cases h1 : a.size ≤ 60
      · exact long_true (s := b) (by simp) (by omega)
      · exact long_true (s := a) (by simp) (by omega)
    have HL := Lib.hid hl
    clear hl
    go_enter Tryd.func8, Tryd.ntmps8
    go_wp2_with fail
    obtain ⟨W0, hW0⟩ : ∃ W0, W0 = w.alloc (.cells #[.string a, .string b] 22) := ⟨_, rfl⟩
    have hc0 : ∀ i, i < 2 → W0.cell? ⟨w.heap.size, i, none⟩ = some (.string ([a, b].getD i ⟨#[]⟩)) := by rw [hW0]; exact great_cells w [a, b]
    have hB : Below w.heap.size w W0 := by rw [hW0]; exact (Below.refl _ w).alloc (Nat.le_refl _) _
    rw [← hW0]
    clear hW0
    refine (great_any W0 w.heap.size 2 [a, b] rfl (by decide) hc0).mono ?_
    rintro e _ ⟨rfl, rfl⟩
    clear hc0
    rw [HL.out]
    go_wp2_with fail
    refine (awake_any W0 (hG.below hB)).mono ?_
    rintro e w1 ⟨rfl, h⟩
    replace hB := hB.trans (h.mono hB.size)
    clear h
    go_wp2_with fail
    go_ret
    exact ⟨rfl, hB⟩

end Go.Proofs.YtaopneanfflbcaaDoor
