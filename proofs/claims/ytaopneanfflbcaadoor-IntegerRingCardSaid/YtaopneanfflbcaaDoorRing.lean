/- the law IntegerRing: the walk. -/
import Derived.Test.YtaopneanfflbcaaDoorLaw
namespace Go.Proofs.YtaopneanfflbcaaDoor
open Go.RowKit

set_option maxRecDepth 100000 in
set_option maxHeartbeats 8000000 in
theorem ring_any (a b c : ByteArray) (w : World) (hG : Ground w) :
    Calls Tryd.prog 6 #[.string a, .string b, .string c] w fun e w' => e = .returned (.bool true) ∧ Below w.heap.size w w' := by
  by_cases hs : a.size ≤ 60 ∧ b.size ≤ 60 ∧ c.size ≤ 60
  · obtain ⟨h1, h2, h3⟩ := hs
    have hl : long [a, b, c] = false := long_false (by simp; omega)
    obtain ⟨x, hx⟩ : ∃ x, vS a = x := ⟨_, rfl⟩
    obtain ⟨y, hy⟩ : ∃ y, vS b = y := ⟨_, rfl⟩
    obtain ⟨z, hz⟩ : ∃ z, vS c = z := ⟨_, rfl⟩
    have Ha := Lib.hid (And.intro hx h1)
    have Hb := Lib.hid (And.intro hy h2)
    have Hc := Lib.hid (And.intro hz h3)
    clear hx hy hz h1 h2 h3
    have HL := Lib.hid hl
    clear hl
    go_enter Tryd.func6, Tryd.ntmps6
    go_wp2_with fail
    obtain ⟨W0, hW0⟩ : ∃ W0, W0 = w.alloc (.cells #[.string a, .string b, .string c] 22) := ⟨_, rfl⟩
    have hc0 : ∀ i, i < 3 → W0.cell? ⟨w.heap.size, i, none⟩ = some (.string ([a, b, c].getD i ⟨#[]⟩)) := by rw [hW0]; exact great_cells w [a, b, c]
    have hB : Below w.heap.size w W0 := by rw [hW0]; exact (Below.refl _ w).alloc (Nat.le_refl _) _
    rw [← hW0]
    clear hW0
    refine (great_any W0 w.heap.size 3 [a, b, c] rfl (by decide) hc0).mono ?_
    rintro e _ ⟨rfl, rfl⟩
    clear hc0
    rw [HL.out]
    go_wp2_with fail
    refine (add_v (a := a) (b := b) (x := x) (y := y) (z := x + y) W0 (hG.below hB) (Nat.le_trans Ha.out.2 (by decide)) (Nat.le_trans Hb.out.2 (by decide)) Ha.out.1 Hb.out.1 (rfl)).mono ?_
    rintro e w1 ⟨rfl, h⟩
    replace hB := hB.trans (h.mono hB.size)
    clear h
    go_wp2_with fail
    refine (add_v (a := b) (b := a) (x := y) (y := x) (z := x + y) w1 (hG.below hB) (Nat.le_trans Hb.out.2 (by decide)) (Nat.le_trans Ha.out.2 (by decide)) Hb.out.1 Ha.out.1 (Int.add_comm y x)).mono ?_
    rintro e w2 ⟨rfl, h⟩
    replace hB := hB.trans (h.mono hB.size)
    clear h
    go_wp2_with fail
    refine (mul_v (a := a) (b := b) (x := x) (y := y) (z := x * y) w2 (hG.below hB) (Nat.le_trans Ha.out.2 (by decide)) (Nat.le_trans Hb.out.2 (by decide)) Ha.out.1 Hb.out.1 (rfl)).mono ?_
    rintro e w3 ⟨rfl, h⟩
    replace hB := hB.trans (h.mono hB.size)
    clear h
    go_wp2_with fail
    refine (mul_v (a := b) (b := a) (x := y) (y := x) (z := x * y) w3 (hG.below hB) (Nat.le_trans Hb.out.2 (by decide)) (Nat.le_trans Ha.out.2 (by decide)) Hb.out.1 Ha.out.1 (Int.mul_comm y x)).mono ?_
    rintro e w4 ⟨rfl, h⟩
    replace hB := hB.trans (h.mono hB.size)
    clear h
    go_wp2_with fail
    refine (add_v (a := a) (b := b) (x := x) (y := y) (z := x + y) w4 (hG.below hB) (Nat.le_trans Ha.out.2 (by decide)) (Nat.le_trans Hb.out.2 (by decide)) Ha.out.1 Hb.out.1 (rfl)).mono ?_
    rintro e w5 ⟨rfl, h⟩
    replace hB := hB.trans (h.mono hB.size)
    clear h
    go_wp2_with fail
    refine (add_v (a := (cS (x + y))) (b := c) (x := x + y) (y := z) (z := (x + y) + z) w5 (hG.below hB) (Cap.size (k := 61) (Cap.add (Cap.of Ha.out.2 Ha.out.1) (Cap.of Hb.out.2 Hb.out.1)) (by decide)) (Nat.le_trans Hc.out.2 (by decide)) (vS_cS _) Hc.out.1 (rfl)).mono ?_
    rintro e w6 ⟨rfl, h⟩
    replace hB := hB.trans (h.mono hB.size)
    clear h
    go_wp2_with fail
    refine (add_v (a := b) (b := c) (x := y) (y := z) (z := y + z) w6 (hG.below hB) (Nat.le_trans Hb.out.2 (by decide)) (Nat.le_trans Hc.out.2 (by decide)) Hb.out.1 Hc.out.1 (rfl)).mono ?_
    rintro e w7 ⟨rfl, h⟩
    replace hB := hB.trans (h.mono hB.size)
    clear h
    go_wp2_with fail
    refine (add_v (a := a) (b := (cS (y + z))) (x := x) (y := y + z) (z := x + y + z) w7 (hG.below hB) (Nat.le_trans Ha.out.2 (by decide)) (Cap.size (k := 61) (Cap.add (Cap.of Hb.out.2 Hb.out.1) (Cap.of Hc.out.2 Hc.out.1)) (by decide)) Ha.out.1 (vS_cS _) ((Int.add_assoc x y z).symm)).mono ?_
    rintro e w8 ⟨rfl, h⟩
    replace hB := hB.trans (h.mono hB.size)
    clear h
    go_wp2_with fail
    refine (mul_v (a := a) (b := b) (x := x) (y := y) (z := x * y) w8 (hG.below hB) (Nat.le_trans Ha.out.2 (by decide)) (Nat.le_trans Hb.out.2 (by decide)) Ha.out.1 Hb.out.1 (rfl)).mono ?_
    rintro e w9 ⟨rfl, h⟩
    replace hB := hB.trans (h.mono hB.size)
    clear h
    go_wp2_with fail
    refine (mul_v (a := (cS (x * y))) (b := c) (x := x * y) (y := z) (z := (x * y) * z) w9 (hG.below hB) (Cap.size (k := 120) (Cap.mul (Cap.of Ha.out.2 Ha.out.1) (Cap.of Hb.out.2 Hb.out.1)) (by decide)) (Nat.le_trans Hc.out.2 (by decide)) (vS_cS _) Hc.out.1 (rfl)).mono ?_
    rintro e w10 ⟨rfl, h⟩
    replace hB := hB.trans (h.mono hB.size)
    clear h
    go_wp2_with fail
    refine (mul_v (a := b) (b := c) (x := y) (y := z) (z := y * z) w10 (hG.below hB) (Nat.le_trans Hb.out.2 (by decide)) (Nat.le_trans Hc.out.2 (by decide)) Hb.out.1 Hc.out.1 (rfl)).mono ?_
    rintro e w11 ⟨rfl, h⟩
    replace hB := hB.trans (h.mono hB.size)
    clear h
    go_wp2_with fail
    refine (mul_v (a := a) (b := (cS (y * z))) (x := x) (y := y * z) (z := x * y * z) w11 (hG.below hB) (Nat.le_trans Ha.out.2 (by decide)) (Cap.size (k := 120) (Cap.mul (Cap.of Hb.out.2 Hb.out.1) (Cap.of Hc.out.2 Hc.out.1)) (by decide)) Ha.out.1 (vS_cS _) ((Int.mul_assoc x y z).symm)).mono ?_
    rintro e w12 ⟨rfl, h⟩
    replace hB := hB.trans (h.mono hB.size)
    clear h
    go_wp2_with fail
    refine (add_v (a := b) (b := c) (x := y) (y := z) (z := y + z) w12 (hG.below hB) (Nat.le_trans Hb.out.2 (by decide)) (Nat.le_trans Hc.out.2 (by decide)) Hb.out.1 Hc.out.1 (rfl)).mono ?_
    rintro e w13 ⟨rfl, h⟩
    replace hB := hB.trans (h.mono hB.size)
    clear h
    go_wp2_with fail
    refine (mul_v (a := a) (b := (cS (y + z))) (x := x) (y := y + z) (z := x * (y + z)) w13 (hG.below hB) (Nat.le_trans Ha.out.2 (by decide)) (Cap.size (k := 61) (Cap.add (Cap.of Hb.out.2 Hb.out.1) (Cap.of Hc.out.2 Hc.out.1)) (by decide)) Ha.out.1 (vS_cS _) (rfl)).mono ?_
    rintro e w14 ⟨rfl, h⟩
    replace hB := hB.trans (h.mono hB.size)
    clear h
    go_wp2_with fail
    refine (mul_v (a := a) (b := b) (x := x) (y := y) (z := x * y) w14 (hG.below hB) (Nat.le_trans Ha.out.2 (by decide)) (Nat.le_trans Hb.out.2 (by decide)) Ha.out.1 Hb.out.1 (rfl)).mono ?_
    rintro e w15 ⟨rfl, h⟩
    replace hB := hB.trans (h.mono hB.size)
    clear h
    go_wp2_with fail
    refine (mul_v (a := a) (b := c) (x := x) (y := z) (z := x * z) w15 (hG.below hB) (Nat.le_trans Ha.out.2 (by decide)) (Nat.le_trans Hc.out.2 (by decide)) Ha.out.1 Hc.out.1 (rfl)).mono ?_
    rintro e w16 ⟨rfl, h⟩
    replace hB := hB.trans (h.mono hB.size)
    clear h
    go_wp2_with fail
    refine (add_v (a := (cS (x * y))) (b := (cS (x * z))) (x := x * y) (y := x * z) (z := x * (y + z)) w16 (hG.below hB) (Cap.size (k := 120) (Cap.mul (Cap.of Ha.out.2 Ha.out.1) (Cap.of Hb.out.2 Hb.out.1)) (by decide)) (Cap.size (k := 120) (Cap.mul (Cap.of Ha.out.2 Ha.out.1) (Cap.of Hc.out.2 Hc.out.1)) (by decide)) (vS_cS _) (vS_cS _) ((Int.mul_add x y z).symm)).mono ?_
    rintro e w17 ⟨rfl, h⟩
    replace hB := hB.trans (h.mono hB.size)
    clear h
    go_wp2_with fail
    refine (canonical_v (a := a) (x := x) (z := x) w17 (Nat.le_trans Ha.out.2 (by decide)) Ha.out.1 rfl).mono ?_
    rintro e _ ⟨rfl, rfl⟩
    go_wp2_with fail
    refine (add_v (a := a) (b := b) (x := x) (y := y) (z := x + y) w17 (hG.below hB) (Nat.le_trans Ha.out.2 (by decide)) (Nat.le_trans Hb.out.2 (by decide)) Ha.out.1 Hb.out.1 (rfl)).mono ?_
    rintro e w18 ⟨rfl, h⟩
    replace hB := hB.trans (h.mono hB.size)
    clear h
    go_wp2_with fail
    refine (sub_v (a := (cS (x + y))) (b := b) (x := x + y) (y := y) (z := x) w18 (hG.below hB) (Cap.size (k := 61) (Cap.add (Cap.of Ha.out.2 Ha.out.1) (Cap.of Hb.out.2 Hb.out.1)) (by decide)) (Nat.le_trans Hb.out.2 (by decide)) (vS_cS _) Hb.out.1 (by omega)).mono ?_
    rintro e w19 ⟨rfl, h⟩
    replace hB := hB.trans (h.mono hB.size)
    clear h
    go_wp2_with fail
    refine (add_v (a := a) (b := ⟨#[]⟩) (x := x) (y := 0) (z := x) w19 (hG.below hB) (Nat.le_trans Ha.out.2 (by decide)) (by decide) Ha.out.1 vS_nil (Int.add_zero x)).mono ?_
    rintro e w20 ⟨rfl, h⟩
    replace hB := hB.trans (h.mono hB.size)
    clear h
    go_wp2_with fail
    refine (mul_v (a := a) (b := ⟨#[49]⟩) (x := x) (y := 1) (z := x) w20 (hG.below hB) (Nat.le_trans Ha.out.2 (by decide)) (by decide) Ha.out.1 vS_one (Int.mul_one x)).mono ?_
    rintro e w21 ⟨rfl, h⟩
    replace hB := hB.trans (h.mono hB.size)
    clear h
    go_wp2_with fail
    refine (mul_v (a := a) (b := ⟨#[45, 49]⟩) (x := x) (y := -1) (z := -x) w21 (hG.below hB) (Nat.le_trans Ha.out.2 (by decide)) (by decide) Ha.out.1 vS_mone (by omega)).mono ?_
    rintro e w22 ⟨rfl, h⟩
    replace hB := hB.trans (h.mono hB.size)
    clear h
    go_wp2_with fail
    refine (neg_v (a := a) (x := x) (z := -x) w22 (Nat.le_trans Ha.out.2 (by decide)) Ha.out.1 (rfl)).mono ?_
    rintro e _ ⟨rfl, rfl⟩
    go_wp2_with fail
    refine (mul_v (a := a) (b := b) (x := x) (y := y) (z := x * y) w22 (hG.below hB) (Nat.le_trans Ha.out.2 (by decide)) (Nat.le_trans Hb.out.2 (by decide)) Ha.out.1 Hb.out.1 (rfl)).mono ?_
    rintro e w23 ⟨rfl, h⟩
    replace hB := hB.trans (h.mono hB.size)
    clear h
    go_wp2_with fail
    refine (check_v (z := x * y) w23 (Cap.size (k := 120) (Cap.mul (Cap.of Ha.out.2 Ha.out.1) (Cap.of Hb.out.2 Hb.out.1)) (by decide))).mono ?_
    rintro e _ ⟨rfl, rfl⟩
    go_wp2_with fail
    refine (add_v (a := a) (b := b) (x := x) (y := y) (z := x + y) w23 (hG.below hB) (Nat.le_trans Ha.out.2 (by decide)) (Nat.le_trans Hb.out.2 (by decide)) Ha.out.1 Hb.out.1 (rfl)).mono ?_
    rintro e w24 ⟨rfl, h⟩
    replace hB := hB.trans (h.mono hB.size)
    clear h
    go_wp2_with fail
    refine (check_v (z := x + y) w24 (Cap.size (k := 61) (Cap.add (Cap.of Ha.out.2 Ha.out.1) (Cap.of Hb.out.2 Hb.out.1)) (by decide))).mono ?_
    rintro e _ ⟨rfl, rfl⟩
    go_wp2_with fail
    refine (awake_any w24 (hG.below hB)).mono ?_
    rintro e w25 ⟨rfl, h⟩
    replace hB := hB.trans (h.mono hB.size)
    clear h
    go_wp2_with fail
    go_ret
    exact ⟨rfl, hB⟩
  · have hl : long [a, b, c] = true := by
      by_cases h1 : a.size ≤ 60
      · by_cases h2 : b.size ≤ 60
        · exact long_true (s := c) (by simp) (by omega)
        · exact long_true (s := b) (by simp) (by omega)
      · exact long_true (s := a) (by simp) (by omega)
    have HL := Lib.hid hl
    clear hl
    go_enter Tryd.func6, Tryd.ntmps6
    go_wp2_with fail
    obtain ⟨W0, hW0⟩ : ∃ W0, W0 = w.alloc (.cells #[.string a, .string b, .string c] 22) := ⟨_, rfl⟩
    have hc0 : ∀ i, i < 3 → W0.cell? ⟨w.heap.size, i, none⟩ = some (.string ([a, b, c].getD i ⟨#[]⟩)) := by rw [hW0]; exact great_cells w [a, b, c]
    have hB : Below w.heap.size w W0 := by rw [hW0]; exact (Below.refl _ w).alloc (Nat.le_refl _) _
    rw [← hW0]
    clear hW0
    refine (great_any W0 w.heap.size 3 [a, b, c] rfl (by decide) hc0).mono ?_
    rintro e _ ⟨rfl, rfl⟩
    clear hc0
    rw [HL.out]
    go_wp2_with fail
    refine (awake_any W0 (hG.below hB)).mono ?_
    rintro e w1 ⟨rfl, h⟩
    replace hB := hB.trans (h.mono hB.size)
    clear h
    go_wp2_with fail
    go_ret
    exact ⟨rfl, hB⟩

end Go.Proofs.YtaopneanfflbcaaDoor
