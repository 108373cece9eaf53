/- the law IntegerComputes: the walk. -/
import Derived.Test.YtaopneanfflbcaaGreatDoorLaw
import Derived.Test.YtaopneanfflbcaaGreatDoorRefP
import Derived.Test.YtaopneanfflbcaaGreatDoorRefS
namespace Go.Proofs.YtaopneanfflbcaaGreatDoor
open Go.RowKit

set_option maxRecDepth 100000 in
set_option maxHeartbeats 4000000 in
theorem computes_any (a b : ByteArray) (w : World) (hG : Ground w) :
    Calls Tryz.prog 3 #[.string a, .string b] w fun e w' => e = .returned (.bool true) ∧ Below w.heap.size w w' := by
  by_cases hab : a.size ≤ 60 ∧ b.size ≤ 60
  · have HA := Lib.hid hab.1
    have HB0 := Lib.hid hab.2
    have hl : long [a, b] = false := long_false (by intro s hs; simp at hs; rcases hs with rfl | rfl; exact hab.1; exact hab.2)
    have HL := Lib.hid hl
    clear hl
    go_enter Tryz.func3, Tryz.ntmps3
    go_wp2_with fail
    obtain ⟨W0, hW0⟩ : ∃ W0, W0 = w.alloc (.cells #[.string a, .string b] 22) := ⟨_, rfl⟩
    have hc0 : ∀ i, i < 2 → W0.cell? ⟨w.heap.size, i, none⟩ = some (.string ([a, b].getD i ⟨#[]⟩)) := by rw [hW0]; exact great_cells w [a, b]
    have hB : Below w.heap.size w W0 := by rw [hW0]; exact (Below.refl _ w).alloc (Nat.le_refl _) _
    rw [← hW0]
    clear hW0
    refine (great_any W0 w.heap.size 2 [a, b] rfl (by decide) hc0).mono ?_
    rintro e _ ⟨rfl, rfl⟩
    clear hc0
    rw [HL.out]
    go_wp2_with fail
    refine (add_any a b W0 (hG.below hB) (Nat.le_trans HA.out (by decide)) (Nat.le_trans HB0.out (by decide))).mono ?_
    rintro e w1 ⟨rfl, h⟩
    replace hB := hB.trans (h.mono hB.size)
    clear h
    go_wp2_with fail
    refine (rAdd_any a b w1 (Nat.le_trans HA.out (by decide)) (Nat.le_trans HB0.out (by decide))).mono ?_
    rintro e w2 ⟨rfl, h⟩
    replace hB := hB.trans (h.mono hB.size)
    clear h
    go_wp2_with fail
    refine (sub_any a b w2 (hG.below hB) (Nat.le_trans HA.out (by decide)) (Nat.le_trans HB0.out (by decide))).mono ?_
    rintro e w3 ⟨rfl, h⟩
    replace hB := hB.trans (h.mono hB.size)
    clear h
    go_wp2_with fail
    refine (rSub_any a b w3 (Nat.le_trans HA.out (by decide)) (Nat.le_trans HB0.out (by decide))).mono ?_
    rintro e w4 ⟨rfl, h⟩
    replace hB := hB.trans (h.mono hB.size)
    clear h
    go_wp2_with fail
    refine (mul_any a b w4 (hG.below hB) (Nat.le_trans HA.out (by decide)) (Nat.le_trans HB0.out (by decide))).mono ?_
    rintro e w5 ⟨rfl, h⟩
    replace hB := hB.trans (h.mono hB.size)
    clear h
    go_wp2_with fail
    refine (rMul_any a b w5 (Nat.le_trans HA.out (by decide)) (Nat.le_trans HB0.out (by decide))).mono ?_
    rintro e w6 ⟨rfl, h⟩
    replace hB := hB.trans (h.mono hB.size)
    clear h
    go_wp2_with fail
    refine (compare_any a b w6 (Nat.le_trans HA.out (by decide)) (Nat.le_trans HB0.out (by decide))).mono ?_
    rintro e w7 ⟨rfl, h⟩
    replace hB := hB.trans (h.mono hB.size)
    clear h
    go_wp2_with fail
    refine (rCompare_any a b w7 (Nat.le_trans HA.out (by decide)) (Nat.le_trans HB0.out (by decide))).mono ?_
    rintro e _ ⟨rfl, rfl⟩
    go_wp2_with fail
    refine (awake_any w7 (hG.below hB)).mono ?_
    rintro e w8 ⟨rfl, h⟩
    replace hB := hB.trans (h.mono hB.size)
    clear h
    go_wp2_with fail
    go_ret
    exact ⟨rfl, hB⟩
  · have hl : long [a, b] = true := by
      by_cases ha : a.size ≤ 60
      · exact long_true (s := b) (by simp) (by omega)
      · exact long_true (s := a) (by simp) (by omega)
    have HL := Lib.hid hl
    clear hl
    go_enter Tryz.func3, Tryz.ntmps3
    go_wp2_with fail
    obtain ⟨W0, hW0⟩ : ∃ W0, W0 = w.alloc (.cells #[.string a, .string b] 22) := ⟨_, rfl⟩
    have hc0 : ∀ i, i < 2 → W0.cell? ⟨w.heap.size, i, none⟩ = some (.string ([a, b].getD i ⟨#[]⟩)) := by rw [hW0]; exact great_cells w [a, b]
    have hB : Below w.heap.size w W0 := by rw [hW0]; exact (Below.refl _ w).alloc (Nat.le_refl _) _
    rw [← hW0]
    clear hW0
    refine (great_any W0 w.heap.size 2 [a, b] rfl (by decide) hc0).mono ?_
    rintro e _ ⟨rfl, rfl⟩
    clear hc0
    rw [HL.out]
    go_wp2_with fail
    refine (awake_any W0 (hG.below hB)).mono ?_
    rintro e w1 ⟨rfl, h⟩
    replace hB := hB.trans (h.mono hB.size)
    clear h
    go_wp2_with fail
    go_ret
    exact ⟨rfl, hB⟩

end Go.Proofs.YtaopneanfflbcaaGreatDoor
