/- the law IntegerMakes: the walk. -/
import Derived.Test.YtaopneanfflbcaaDoorLaw
import Derived.Test.YtaopneanfflbcaaDoorRefD
import Derived.Test.YtaopneanfflbcaaDoorRefE
namespace Go.Proofs.YtaopneanfflbcaaDoor
open Go.RowKit

theorem rSmall_fits (s : ByteArray) (w : World) (hs : s.size ≤ 4294967296) (hf : fits (vS s) = true) :
    Calls Tryd.prog 16 #[.string s] w fun e w' => e = .returned (.tuple #[.int .i64 (vS s), .bool true]) ∧ w = w' := by
  refine (rSmall_any s w hs).mono ?_
  rintro e w' ⟨rfl, rfl⟩
  rw [hf]; exact ⟨rfl, rfl⟩
theorem rSmall_not (s : ByteArray) (w : World) (hs : s.size ≤ 4294967296) (hf : fits (vS s) = false) :
    Calls Tryd.prog 16 #[.string s] w fun e w' => e = .returned (.tuple #[.int .i64 0, .bool false]) ∧ w = w' := by
  refine (rSmall_any s w hs).mono ?_
  rintro e w' ⟨rfl, rfl⟩
  rw [hf]; exact ⟨rfl, rfl⟩

set_option maxRecDepth 100000 in
set_option maxHeartbeats 4000000 in
theorem makes_any (a : ByteArray) (n : Int) (w : World) (hG : Ground w) (hn0 : -9223372036854775808 ≤ n) (hn1 : n ≤ 9223372036854775807) :
    Calls Tryd.prog 3 #[.string a, .int .i64 n] w fun e w' => e = .returned (.bool true) ∧ Below w.heap.size w w' := by
  by_cases ha : a.size ≤ 60
  · have HA := Lib.hid ha
    have hl : long [a] = false := long_false (by simpa using ha)
    have HL := Lib.hid hl
    clear hl
    go_enter Tryd.func3, Tryd.ntmps3
    go_wp2_with fail
    obtain ⟨W0, hW0⟩ : ∃ W0, W0 = w.alloc (.cells #[.string a] 22) := ⟨_, rfl⟩
    have hc0 : ∀ i, i < 1 → W0.cell? ⟨w.heap.size, i, none⟩ = some (.string ([a].getD i ⟨#[]⟩)) := by rw [hW0]; exact great_cells w [a]
    have hB : Below w.heap.size w W0 := by rw [hW0]; exact (Below.refl _ w).alloc (Nat.le_refl _) _
    rw [← hW0]
    clear hW0
    refine (great_any W0 w.heap.size 1 [a] rfl (by decide) hc0).mono ?_
    rintro e _ ⟨rfl, rfl⟩
    clear hc0
    rw [HL.out]
    cases hf : fits (vS a)
    · have HF := Lib.hid hf
      clear hf
      go_wp2_with fail
      refine (small_not a W0 (hG.below hB) (Nat.le_trans HA.out (by decide)) HF.out).mono ?_
      rintro e w1 ⟨rfl, h⟩
      replace hB := hB.trans (h.mono hB.size)
      clear h
      go_wp2_with fail
      refine (rSmall_not a w1 (Nat.le_trans HA.out (by decide)) HF.out).mono ?_
      rintro e _ ⟨rfl, rfl⟩
      go_wp2_with fail
      refine (check_any a w1 (Nat.le_trans HA.out (by decide))).mono ?_
      rintro e _ ⟨rfl, rfl⟩
      go_wp2_with fail
      refine (rCheck_any a w1 (Nat.le_trans HA.out (by decide))).mono ?_
      rintro e _ ⟨rfl, rfl⟩
      go_wp2_with fail
      refine (canonical_any a w1 (Nat.le_trans HA.out (by decide))).mono ?_
      rintro e _ ⟨rfl, rfl⟩
      go_wp2_with fail
      refine (rCanonical_any a w1 (Nat.le_trans HA.out (by decide))).mono ?_
      rintro e _ ⟨rfl, rfl⟩
      go_wp2_with fail
      refine (of_any n w1 (hG.below hB) hn0 hn1).mono ?_
      rintro e w2 ⟨rfl, h⟩
      replace hB := hB.trans (h.mono hB.size)
      clear h
      go_wp2_with fail
      refine (rOf_any n w2 hn0 hn1).mono ?_
      rintro e _ ⟨rfl, rfl⟩
      go_wp2_with fail
      refine (neg_any a w2 (Nat.le_trans HA.out (by decide))).mono ?_
      rintro e _ ⟨rfl, rfl⟩
      go_wp2_with fail
      refine (rNeg_any a w2 (Nat.le_trans HA.out (by decide))).mono ?_
      rintro e _ ⟨rfl, rfl⟩
      go_wp2_with fail
      refine (print_any a w2 (Nat.le_trans HA.out (by decide))).mono ?_
      rintro e _ ⟨rfl, rfl⟩
      go_wp2_with fail
      refine (rPrint_any a w2 (Nat.le_trans HA.out (by decide))).mono ?_
      rintro e _ ⟨rfl, rfl⟩
      go_wp2_with fail
      refine (awake_any w2 (hG.below hB)).mono ?_
      rintro e w3 ⟨rfl, h⟩
      replace hB := hB.trans (h.mono hB.size)
      clear h
      go_wp2_with fail
      go_ret
      exact ⟨rfl, hB⟩
    · have HF := Lib.hid hf
      clear hf
      go_wp2_with fail
      refine (small_fits a W0  (Nat.le_trans HA.out (by decide)) HF.out).mono ?_
      rintro e w1 ⟨rfl, h⟩
      replace hB := hB.trans (h.mono hB.size)
      clear h
      go_wp2_with fail
      refine (rSmall_fits a w1 (Nat.le_trans HA.out (by decide)) HF.out).mono ?_
      rintro e _ ⟨rfl, rfl⟩
      go_wp2_with fail
      refine (check_any a w1 (Nat.le_trans HA.out (by decide))).mono ?_
      rintro e _ ⟨rfl, rfl⟩
      go_wp2_with fail
      refine (rCheck_any a w1 (Nat.le_trans HA.out (by decide))).mono ?_
      rintro e _ ⟨rfl, rfl⟩
      go_wp2_with fail
      refine (canonical_any a w1 (Nat.le_trans HA.out (by decide))).mono ?_
      rintro e _ ⟨rfl, rfl⟩
      go_wp2_with fail
      refine (rCanonical_any a w1 (Nat.le_trans HA.out (by decide))).mono ?_
      rintro e _ ⟨rfl, rfl⟩
      go_wp2_with fail
      refine (of_any n w1 (hG.below hB) hn0 hn1).mono ?_
      rintro e w2 ⟨rfl, h⟩
      replace hB := hB.trans (h.mono hB.size)
      clear h
      go_wp2_with fail
      refine (rOf_any n w2 hn0 hn1).mono ?_
      rintro e _ ⟨rfl, rfl⟩
      go_wp2_with fail
      refine (neg_any a w2 (Nat.le_trans HA.out (by decide))).mono ?_
      rintro e _ ⟨rfl, rfl⟩
      go_wp2_with fail
      refine (rNeg_any a w2 (Nat.le_trans HA.out (by decide))).mono ?_
      rintro e _ ⟨rfl, rfl⟩
      go_wp2_with fail
      refine (print_any a w2 (Nat.le_trans HA.out (by decide))).mono ?_
      rintro e _ ⟨rfl, rfl⟩
      go_wp2_with fail
      refine (rPrint_any a w2 (Nat.le_trans HA.out (by decide))).mono ?_
      rintro e _ ⟨rfl, rfl⟩
      go_wp2_with fail
      refine (awake_any w2 (hG.below hB)).mono ?_
      rintro e w3 ⟨rfl, h⟩
      replace hB := hB.trans (h.mono hB.size)
      clear h
      go_wp2_with fail
      go_ret
      exact ⟨rfl, hB⟩
  · have hl : long [a] = true := long_true (s := a) (by simp) (by omega)
    have HL := Lib.hid hl
    clear hl
    go_enter Tryd.func3, Tryd.ntmps3
    go_wp2_with fail
    obtain ⟨W0, hW0⟩ : ∃ W0, W0 = w.alloc (.cells #[.string a] 22) := ⟨_, rfl⟩
    have hc0 : ∀ i, i < 1 → W0.cell? ⟨w.heap.size, i, none⟩ = some (.string ([a].getD i ⟨#[]⟩)) := by rw [hW0]; exact great_cells w [a]
    have hB : Below w.heap.size w W0 := by rw [hW0]; exact (Below.refl _ w).alloc (Nat.le_refl _) _
    rw [← hW0]
    clear hW0
    refine (great_any W0 w.heap.size 1 [a] rfl (by decide) hc0).mono ?_
    rintro e _ ⟨rfl, rfl⟩
    clear hc0
    rw [HL.out]
    go_wp2_with fail
    refine (awake_any W0 (hG.below hB)).mono ?_
    rintro e w1 ⟨rfl, h⟩
    replace hB := hB.trans (h.mono hB.size)
    clear h
    go_wp2_with fail
    go_ret
    exact ⟨rfl, hB⟩

end Go.Proofs.YtaopneanfflbcaaDoor
