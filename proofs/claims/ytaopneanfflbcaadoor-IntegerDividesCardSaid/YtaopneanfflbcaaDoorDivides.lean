/- the law IntegerDivides: the walk. -/
import Derived.Test.YtaopneanfflbcaaDoorLaw
import Derived.Test.YtaopneanfflbcaaDoorRefU
import Derived.Test.YtaopneanfflbcaaDoorRefV
namespace Go.Proofs.YtaopneanfflbcaaDoor
open Go.RowKit

set_option maxRecDepth 100000 in
set_option maxHeartbeats 4000000 in
theorem divides_z0 (a b : ByteArray) (n : Int) (w : World) (hG : Ground w) (ha : a.size ≤ 60) (hb : b.size ≤ 60) (h0 : vS b = 0) (h1 : 12 < a.size) :
    Calls Tryd.prog 4 #[.string a, .string b, .int .i64 n] w fun e w' => e = .returned (.bool true) ∧ Below w.heap.size w w' := by
  have HL := Lib.hid (show long [a, b] = false from long_false (by intro s hs; simp at hs; rcases hs with rfl | rfl; exact ha; exact hb))
  have H0 := Lib.hid h0
  clear h0
  have HA := Lib.hid ha
  have HB0 := Lib.hid hb
  go_enter Tryd.func4, Tryd.ntmps4
  go_wp2_with fail
  obtain ⟨W0, hW0⟩ : ∃ W0, W0 = w.alloc (.cells #[.string a, .string b] 22) := ⟨_, rfl⟩
  have hc0 : ∀ i, i < 2 → W0.cell? ⟨w.heap.size, i, none⟩ = some (.string ([a, b].getD i ⟨#[]⟩)) := by rw [hW0]; exact great_cells w [a, b]
  have hB : Below w.heap.size w W0 := by rw [hW0]; exact (Below.refl _ w).alloc (Nat.le_refl _) _
  rw [← hW0]
  clear hW0
  refine (great_any W0 w.heap.size 2 [a, b] rfl (by decide) hc0).mono ?_
  rintro e _ ⟨rfl, rfl⟩
  clear hc0
  rw [HL.out]
  go_wp2_with fail
  refine (div_zero a b W0 (Nat.le_trans HA.out (by decide)) (Nat.le_trans HB0.out (by decide)) H0.out).mono ?_
  rintro e w1 ⟨rfl, h⟩
  replace hB := hB.trans (h.mono hB.size)
  clear h
  go_wp2_with fail
  refine (rDiv_zero a b w1 (Nat.le_trans HA.out (by decide)) (Nat.le_trans HB0.out (by decide)) H0.out).mono ?_
  rintro e _ ⟨rfl, rfl⟩
  go_wp2_with fail
  refine (gcd_any a b w1 (hG.below hB) (Nat.le_trans HA.out (by decide)) (Nat.le_trans HB0.out (by decide))).mono ?_
  rintro e w2 ⟨rfl, h⟩
  replace hB := hB.trans (h.mono hB.size)
  clear h
  go_wp2_with fail
  refine (rGcd_any a b w2 (Nat.le_trans HA.out (by decide)) (Nat.le_trans HB0.out (by decide))).mono ?_
  rintro e w3 ⟨rfl, h⟩
  replace hB := hB.trans (h.mono hB.size)
  clear h
  go_wp2_with fail
  refine (awake_any w3 (hG.below hB)).mono ?_
  rintro e w4 ⟨rfl, h⟩
  replace hB := hB.trans (h.mono hB.size)
  clear h
  go_wp2_with fail
  go_ret
  exact ⟨rfl, hB⟩

set_option maxRecDepth 100000 in
set_option maxHeartbeats 4000000 in
theorem divides_z1 (a b : ByteArray) (n : Int) (w : World) (hG : Ground w) (ha : a.size ≤ 60) (hb : b.size ≤ 60) (h0 : vS b = 0) (h1 : a.size ≤ 12) (h2 : 60 < n) (h3 : n ≤ 400) :
    Calls Tryd.prog 4 #[.string a, .string b, .int .i64 n] w fun e w' => e = .returned (.bool true) ∧ Below w.heap.size w w' := by
  have HL := Lib.hid (show long [a, b] = false from long_false (by intro s hs; simp at hs; rcases hs with rfl | rfl; exact ha; exact hb))
  have H0 := Lib.hid h0
  clear h0
  have HA := Lib.hid ha
  have HB0 := Lib.hid hb
  go_enter Tryd.func4, Tryd.ntmps4
  go_wp2_with fail
  obtain ⟨W0, hW0⟩ : ∃ W0, W0 = w.alloc (.cells #[.string a, .string b] 22) := ⟨_, rfl⟩
  have hc0 : ∀ i, i < 2 → W0.cell? ⟨w.heap.size, i, none⟩ = some (.string ([a, b].getD i ⟨#[]⟩)) := by rw [hW0]; exact great_cells w [a, b]
  have hB : Below w.heap.size w W0 := by rw [hW0]; exact (Below.refl _ w).alloc (Nat.le_refl _) _
  rw [← hW0]
  clear hW0
  refine (great_any W0 w.heap.size 2 [a, b] rfl (by decide) hc0).mono ?_
  rintro e _ ⟨rfl, rfl⟩
  clear hc0
  rw [HL.out]
  go_wp2_with fail
  refine (div_zero a b W0 (Nat.le_trans HA.out (by decide)) (Nat.le_trans HB0.out (by decide)) H0.out).mono ?_
  rintro e w1 ⟨rfl, h⟩
  replace hB := hB.trans (h.mono hB.size)
  clear h
  go_wp2_with fail
  refine (rDiv_zero a b w1 (Nat.le_trans HA.out (by decide)) (Nat.le_trans HB0.out (by decide)) H0.out).mono ?_
  rintro e _ ⟨rfl, rfl⟩
  go_wp2_with fail
  refine (gcd_any a b w1 (hG.below hB) (Nat.le_trans HA.out (by decide)) (Nat.le_trans HB0.out (by decide))).mono ?_
  rintro e w2 ⟨rfl, h⟩
  replace hB := hB.trans (h.mono hB.size)
  clear h
  go_wp2_with fail
  refine (rGcd_any a b w2 (Nat.le_trans HA.out (by decide)) (Nat.le_trans HB0.out (by decide))).mono ?_
  rintro e w3 ⟨rfl, h⟩
  replace hB := hB.trans (h.mono hB.size)
  clear h
  go_wp2_with fail
  refine (awake_any w3 (hG.below hB)).mono ?_
  rintro e w4 ⟨rfl, h⟩
  replace hB := hB.trans (h.mono hB.size)
  clear h
  go_wp2_with fail
  go_ret
  exact ⟨rfl, hB⟩

set_option maxRecDepth 100000 in
set_option maxHeartbeats 4000000 in
theorem divides_z2 (a b : ByteArray) (n : Int) (w : World) (hG : Ground w) (ha : a.size ≤ 60) (hb : b.size ≤ 60) (h0 : vS b = 0) (h1 : a.size ≤ 12) (h2 : n < 0) :
    Calls Tryd.prog 4 #[.string a, .string b, .int .i64 n] w fun e w' => e = .returned (.bool true) ∧ Below w.heap.size w w' := by
  have HL := Lib.hid (show long [a, b] = false from long_false (by intro s hs; simp at hs; rcases hs with rfl | rfl; exact ha; exact hb))
  have H0 := Lib.hid h0
  clear h0
  have HA := Lib.hid ha
  have HB0 := Lib.hid hb
  go_enter Tryd.func4, Tryd.ntmps4
  go_wp2_with fail
  obtain ⟨W0, hW0⟩ : ∃ W0, W0 = w.alloc (.cells #[.string a, .string b] 22) := ⟨_, rfl⟩
  have hc0 : ∀ i, i < 2 → W0.cell? ⟨w.heap.size, i, none⟩ = some (.string ([a, b].getD i ⟨#[]⟩)) := by rw [hW0]; exact great_cells w [a, b]
  have hB : Below w.heap.size w W0 := by rw [hW0]; exact (Below.refl _ w).alloc (Nat.le_refl _) _
  rw [← hW0]
  clear hW0
  refine (great_any W0 w.heap.size 2 [a, b] rfl (by decide) hc0).mono ?_
  rintro e _ ⟨rfl, rfl⟩
  clear hc0
  rw [HL.out]
  go_wp2_with fail
  refine (div_zero a b W0 (Nat.le_trans HA.out (by decide)) (Nat.le_trans HB0.out (by decide)) H0.out).mono ?_
  rintro e w1 ⟨rfl, h⟩
  replace hB := hB.trans (h.mono hB.size)
  clear h
  go_wp2_with fail
  refine (rDiv_zero a b w1 (Nat.le_trans HA.out (by decide)) (Nat.le_trans HB0.out (by decide)) H0.out).mono ?_
  rintro e _ ⟨rfl, rfl⟩
  go_wp2_with fail
  refine (gcd_any a b w1 (hG.below hB) (Nat.le_trans HA.out (by decide)) (Nat.le_trans HB0.out (by decide))).mono ?_
  rintro e w2 ⟨rfl, h⟩
  replace hB := hB.trans (h.mono hB.size)
  clear h
  go_wp2_with fail
  refine (rGcd_any a b w2 (Nat.le_trans HA.out (by decide)) (Nat.le_trans HB0.out (by decide))).mono ?_
  rintro e w3 ⟨rfl, h⟩
  replace hB := hB.trans (h.mono hB.size)
  clear h
  go_wp2_with fail
  refine (power_range a n w3 (.inl h2)).mono ?_
  rintro e _ ⟨rfl, rfl⟩
  go_wp2_with fail
  refine (rPower_range a n w3 (.inl h2)).mono ?_
  rintro e _ ⟨rfl, rfl⟩
  go_wp2_with fail
  refine (awake_any w3 (hG.below hB)).mono ?_
  rintro e w4 ⟨rfl, h⟩
  replace hB := hB.trans (h.mono hB.size)
  clear h
  go_wp2_with fail
  go_ret
  exact ⟨rfl, hB⟩

set_option maxRecDepth 100000 in
set_option maxHeartbeats 4000000 in
theorem divides_z3 (a b : ByteArray) (n : Int) (w : World) (hG : Ground w) (ha : a.size ≤ 60) (hb : b.size ≤ 60) (h0 : vS b = 0) (h1 : a.size ≤ 12) (h2 : 400 < n) :
    Calls Tryd.prog 4 #[.string a, .string b, .int .i64 n] w fun e w' => e = .returned (.bool true) ∧ Below w.heap.size w w' := by
  have HL := Lib.hid (show long [a, b] = false from long_false (by intro s hs; simp at hs; rcases hs with rfl | rfl; exact ha; exact hb))
  have H0 := Lib.hid h0
  clear h0
  have HA := Lib.hid ha
  have HB0 := Lib.hid hb
  go_enter Tryd.func4, Tryd.ntmps4
  go_wp2_with fail
  obtain ⟨W0, hW0⟩ : ∃ W0, W0 = w.alloc (.cells #[.string a, .string b] 22) := ⟨_, rfl⟩
  have hc0 : ∀ i, i < 2 → W0.cell? ⟨w.heap.size, i, none⟩ = some (.string ([a, b].getD i ⟨#[]⟩)) := by rw [hW0]; exact great_cells w [a, b]
  have hB : Below w.heap.size w W0 := by rw [hW0]; exact (Below.refl _ w).alloc (Nat.le_refl _) _
  rw [← hW0]
  clear hW0
  refine (great_any W0 w.heap.size 2 [a, b] rfl (by decide) hc0).mono ?_
  rintro e _ ⟨rfl, rfl⟩
  clear hc0
  rw [HL.out]
  go_wp2_with fail
  refine (div_zero a b W0 (Nat.le_trans HA.out (by decide)) (Nat.le_trans HB0.out (by decide)) H0.out).mono ?_
  rintro e w1 ⟨rfl, h⟩
  replace hB := hB.trans (h.mono hB.size)
  clear h
  go_wp2_with fail
  refine (rDiv_zero a b w1 (Nat.le_trans HA.out (by decide)) (Nat.le_trans HB0.out (by decide)) H0.out).mono ?_
  rintro e _ ⟨rfl, rfl⟩
  go_wp2_with fail
  refine (gcd_any a b w1 (hG.below hB) (Nat.le_trans HA.out (by decide)) (Nat.le_trans HB0.out (by decide))).mono ?_
  rintro e w2 ⟨rfl, h⟩
  replace hB := hB.trans (h.mono hB.size)
  clear h
  go_wp2_with fail
  refine (rGcd_any a b w2 (Nat.le_trans HA.out (by decide)) (Nat.le_trans HB0.out (by decide))).mono ?_
  rintro e w3 ⟨rfl, h⟩
  replace hB := hB.trans (h.mono hB.size)
  clear h
  go_wp2_with fail
  refine (power_range a n w3 (.inr h2)).mono ?_
  rintro e _ ⟨rfl, rfl⟩
  go_wp2_with fail
  refine (rPower_range a n w3 (.inr h2)).mono ?_
  rintro e _ ⟨rfl, rfl⟩
  go_wp2_with fail
  refine (awake_any w3 (hG.below hB)).mono ?_
  rintro e w4 ⟨rfl, h⟩
  replace hB := hB.trans (h.mono hB.size)
  clear h
  go_wp2_with fail
  go_ret
  exact ⟨rfl, hB⟩

set_option maxRecDepth 100000 in
set_option maxHeartbeats 4000000 in
theorem divides_z4 (a b : ByteArray) (N : Nat) (w : World) (hG : Ground w) (ha : a.size ≤ 60) (hb : b.size ≤ 60) (h0 : vS b = 0) (h1 : a.size ≤ 12) (h2 : N ≤ 60) :
    Calls Tryd.prog 4 #[.string a, .string b, .int .i64 (N : Int)] w fun e w' => e = .returned (.bool true) ∧ Below w.heap.size w w' := by
  have HL := Lib.hid (show long [a, b] = false from long_false (by intro s hs; simp at hs; rcases hs with rfl | rfl; exact ha; exact hb))
  have H0 := Lib.hid h0
  clear h0
  have HA := Lib.hid ha
  have HB0 := Lib.hid hb
  have ha3 : a.size ≤ 12 := by omega
  go_enter Tryd.func4, Tryd.ntmps4
  go_wp2_with fail
  obtain ⟨W0, hW0⟩ : ∃ W0, W0 = w.alloc (.cells #[.string a, .string b] 22) := ⟨_, rfl⟩
  have hc0 : ∀ i, i < 2 → W0.cell? ⟨w.heap.size, i, none⟩ = some (.string ([a, b].getD i ⟨#[]⟩)) := by rw [hW0]; exact great_cells w [a, b]
  have hB : Below w.heap.size w W0 := by rw [hW0]; exact (Below.refl _ w).alloc (Nat.le_refl _) _
  rw [← hW0]
  clear hW0
  refine (great_any W0 w.heap.size 2 [a, b] rfl (by decide) hc0).mono ?_
  rintro e _ ⟨rfl, rfl⟩
  clear hc0
  rw [HL.out]
  go_wp2_with fail
  refine (div_zero a b W0 (Nat.le_trans HA.out (by decide)) (Nat.le_trans HB0.out (by decide)) H0.out).mono ?_
  rintro e w1 ⟨rfl, h⟩
  replace hB := hB.trans (h.mono hB.size)
  clear h
  go_wp2_with fail
  refine (rDiv_zero a b w1 (Nat.le_trans HA.out (by decide)) (Nat.le_trans HB0.out (by decide)) H0.out).mono ?_
  rintro e _ ⟨rfl, rfl⟩
  go_wp2_with fail
  refine (gcd_any a b w1 (hG.below hB) (Nat.le_trans HA.out (by decide)) (Nat.le_trans HB0.out (by decide))).mono ?_
  rintro e w2 ⟨rfl, h⟩
  replace hB := hB.trans (h.mono hB.size)
  clear h
  go_wp2_with fail
  refine (rGcd_any a b w2 (Nat.le_trans HA.out (by decide)) (Nat.le_trans HB0.out (by decide))).mono ?_
  rintro e w3 ⟨rfl, h⟩
  replace hB := hB.trans (h.mono hB.size)
  clear h
  go_wp2_with fail
  refine (power_any a N w3 (hG.below hB) (Nat.le_trans HA.out (by decide)) (by omega)).mono ?_
  rintro e w4 ⟨rfl, h⟩
  replace hB := hB.trans (h.mono hB.size)
  clear h
  go_wp2_with fail
  refine (rPower_any a N w4 ha3 (by omega)).mono ?_
  rintro e w5 ⟨rfl, h⟩
  replace hB := hB.trans (h.mono hB.size)
  clear h
  go_wp2_with fail
  refine (awake_any w5 (hG.below hB)).mono ?_
  rintro e w6 ⟨rfl, h⟩
  replace hB := hB.trans (h.mono hB.size)
  clear h
  go_wp2_with fail
  go_ret
  exact ⟨rfl, hB⟩

set_option maxRecDepth 100000 in
set_option maxHeartbeats 4000000 in
theorem divides_n0 (a b : ByteArray) (n : Int) (w : World) (hG : Ground w) (ha : a.size ≤ 60) (hb : b.size ≤ 60) (h0 : vS b ≠ 0) (h1 : 12 < a.size) :
    Calls Tryd.prog 4 #[.string a, .string b, .int .i64 n] w fun e w' => e = .returned (.bool true) ∧ Below w.heap.size w w' := by
  have HL := Lib.hid (show long [a, b] = false from long_false (by intro s hs; simp at hs; rcases hs with rfl | rfl; exact ha; exact hb))
  have H0 := Lib.hid h0
  clear h0
  have HA := Lib.hid ha
  have HB0 := Lib.hid hb
  go_enter Tryd.func4, Tryd.ntmps4
  go_wp2_with fail
  obtain ⟨W0, hW0⟩ : ∃ W0, W0 = w.alloc (.cells #[.string a, .string b] 22) := ⟨_, rfl⟩
  have hc0 : ∀ i, i < 2 → W0.cell? ⟨w.heap.size, i, none⟩ = some (.string ([a, b].getD i ⟨#[]⟩)) := by rw [hW0]; exact great_cells w [a, b]
  have hB : Below w.heap.size w W0 := by rw [hW0]; exact (Below.refl _ w).alloc (Nat.le_refl _) _
  rw [← hW0]
  clear hW0
  refine (great_any W0 w.heap.size 2 [a, b] rfl (by decide) hc0).mono ?_
  rintro e _ ⟨rfl, rfl⟩
  clear hc0
  rw [HL.out]
  go_wp2_with fail
  refine (div_any a b W0 (hG.below hB) (Nat.le_trans HA.out (by decide)) (Nat.le_trans HB0.out (by decide)) H0.out).mono ?_
  rintro e w1 ⟨rfl, h⟩
  replace hB := hB.trans (h.mono hB.size)
  clear h
  go_wp2_with fail
  refine (rDiv_any a b w1 (Nat.le_trans HA.out (by decide)) (Nat.le_trans HB0.out (by decide)) H0.out).mono ?_
  rintro e w2 ⟨rfl, h⟩
  replace hB := hB.trans (h.mono hB.size)
  clear h
  go_wp2_with fail
  refine (gcd_any a b w2 (hG.below hB) (Nat.le_trans HA.out (by decide)) (Nat.le_trans HB0.out (by decide))).mono ?_
  rintro e w3 ⟨rfl, h⟩
  replace hB := hB.trans (h.mono hB.size)
  clear h
  go_wp2_with fail
  refine (rGcd_any a b w3 (Nat.le_trans HA.out (by decide)) (Nat.le_trans HB0.out (by decide))).mono ?_
  rintro e w4 ⟨rfl, h⟩
  replace hB := hB.trans (h.mono hB.size)
  clear h
  go_wp2_with fail
  refine (awake_any w4 (hG.below hB)).mono ?_
  rintro e w5 ⟨rfl, h⟩
  replace hB := hB.trans (h.mono hB.size)
  clear h
  go_wp2_with fail
  go_ret
  exact ⟨rfl, hB⟩

set_option maxRecDepth 100000 in
set_option maxHeartbeats 4000000 in
theorem divides_n1 (a b : ByteArray) (n : Int) (w : World) (hG : Ground w) (ha : a.size ≤ 60) (hb : b.size ≤ 60) (h0 : vS b ≠ 0) (h1 : a.size ≤ 12) (h2 : 60 < n) (h3 : n ≤ 400) :
    Calls Tryd.prog 4 #[.string a, .string b, .int .i64 n] w fun e w' => e = .returned (.bool true) ∧ Below w.heap.size w w' := by
  have HL := Lib.hid (show long [a, b] = false from long_false (by intro s hs; simp at hs; rcases hs with rfl | rfl; exact ha; exact hb))
  have H0 := Lib.hid h0
  clear h0
  have HA := Lib.hid ha
  have HB0 := Lib.hid hb
  go_enter Tryd.func4, Tryd.ntmps4
  go_wp2_with fail
  obtain ⟨W0, hW0⟩ : ∃ W0, W0 = w.alloc (.cells #[.string a, .string b] 22) := ⟨_, rfl⟩
  have hc0 : ∀ i, i < 2 → W0.cell? ⟨w.heap.size, i, none⟩ = some (.string ([a, b].getD i ⟨#[]⟩)) := by rw [hW0]; exact great_cells w [a, b]
  have hB : Below w.heap.size w W0 := by rw [hW0]; exact (Below.refl _ w).alloc (Nat.le_refl _) _
  rw [← hW0]
  clear hW0
  refine (great_any W0 w.heap.size 2 [a, b] rfl (by decide) hc0).mono ?_
  rintro e _ ⟨rfl, rfl⟩
  clear hc0
  rw [HL.out]
  go_wp2_with fail
  refine (div_any a b W0 (hG.below hB) (Nat.le_trans HA.out (by decide)) (Nat.le_trans HB0.out (by decide)) H0.out).mono ?_
  rintro e w1 ⟨rfl, h⟩
  replace hB := hB.trans (h.mono hB.size)
  clear h
  go_wp2_with fail
  refine (rDiv_any a b w1 (Nat.le_trans HA.out (by decide)) (Nat.le_trans HB0.out (by decide)) H0.out).mono ?_
  rintro e w2 ⟨rfl, h⟩
  replace hB := hB.trans (h.mono hB.size)
  clear h
  go_wp2_with fail
  refine (gcd_any a b w2 (hG.below hB) (Nat.le_trans HA.out (by decide)) (Nat.le_trans HB0.out (by decide))).mono ?_
  rintro e w3 ⟨rfl, h⟩
  replace hB := hB.trans (h.mono hB.size)
  clear h
  go_wp2_with fail
  refine (rGcd_any a b w3 (Nat.le_trans HA.out (by decide)) (Nat.le_trans HB0.out (by decide))).mono ?_
  rintro e w4 ⟨rfl, h⟩
  replace hB := hB.trans (h.mono hB.size)
  clear h
  go_wp2_with fail
  refine (awake_any w4 (hG.below hB)).mono ?_
  rintro e w5 ⟨rfl, h⟩
  replace hB := hB.trans (h.mono hB.size)
  clear h
  go_wp2_with fail
  go_ret
  exact ⟨rfl, hB⟩

set_option maxRecDepth 100000 in
set_option maxHeartbeats 4000000 in
theorem divides_n2 (a b : ByteArray) (n : Int) (w : World) (hG : Ground w) (ha : a.size ≤ 60) (hb : b.size ≤ 60) (h0 : vS b ≠ 0) (h1 : a.size ≤ 12) (h2 : n < 0) :
    Calls Tryd.prog 4 #[.string a, .string b, .int .i64 n] w fun e w' => e = .returned (.bool true) ∧ Below w.heap.size w w' := by
  have HL := Lib.hid (show long [a, b] = false from long_false (by intro s hs; simp at hs; rcases hs with rfl | rfl; exact ha; exact hb))
  have H0 := Lib.hid h0
  clear h0
  have HA := Lib.hid ha
  have HB0 := Lib.hid hb
  go_enter Tryd.func4, Tryd.ntmps4
  go_wp2_with fail
  obtain ⟨W0, hW0⟩ : ∃ W0, W0 = w.alloc (.cells #[.string a, .string b] 22) := ⟨_, rfl⟩
  have hc0 : ∀ i, i < 2 → W0.cell? ⟨w.heap.size, i, none⟩ = some (.string ([a, b].getD i ⟨#[]⟩)) := by rw [hW0]; exact great_cells w [a, b]
  have hB : Below w.heap.size w W0 := by rw [hW0]; exact (Below.refl _ w).alloc (Nat.le_refl _) _
  rw [← hW0]
  clear hW0
  refine (great_any W0 w.heap.size 2 [a, b] rfl (by decide) hc0).mono ?_
  rintro e _ ⟨rfl, rfl⟩
  clear hc0
  rw [HL.out]
  go_wp2_with fail
  refine (div_any a b W0 (hG.below hB) (Nat.le_trans HA.out (by decide)) (Nat.le_trans HB0.out (by decide)) H0.out).mono ?_
  rintro e w1 ⟨rfl, h⟩
  replace hB := hB.trans (h.mono hB.size)
  clear h
  go_wp2_with fail
  refine (rDiv_any a b w1 (Nat.le_trans HA.out (by decide)) (Nat.le_trans HB0.out (by decide)) H0.out).mono ?_
  rintro e w2 ⟨rfl, h⟩
  replace hB := hB.trans (h.mono hB.size)
  clear h
  go_wp2_with fail
  refine (gcd_any a b w2 (hG.below hB) (Nat.le_trans HA.out (by decide)) (Nat.le_trans HB0.out (by decide))).mono ?_
  rintro e w3 ⟨rfl, h⟩
  replace hB := hB.trans (h.mono hB.size)
  clear h
  go_wp2_with fail
  refine (rGcd_any a b w3 (Nat.le_trans HA.out (by decide)) (Nat.le_trans HB0.out (by decide))).mono ?_
  rintro e w4 ⟨rfl, h⟩
  replace hB := hB.trans (h.mono hB.size)
  clear h
  go_wp2_with fail
  refine (power_range a n w4 (.inl h2)).mono ?_
  rintro e _ ⟨rfl, rfl⟩
  go_wp2_with fail
  refine (rPower_range a n w4 (.inl h2)).mono ?_
  rintro e _ ⟨rfl, rfl⟩
  go_wp2_with fail
  refine (awake_any w4 (hG.below hB)).mono ?_
  rintro e w5 ⟨rfl, h⟩
  replace hB := hB.trans (h.mono hB.size)
  clear h
  go_wp2_with fail
  go_ret
  exact ⟨rfl, hB⟩

set_option maxRecDepth 100000 in
set_option maxHeartbeats 4000000 in
theorem divides_n3 (a b : ByteArray) (n : Int) (w : World) (hG : Ground w) (ha : a.size ≤ 60) (hb : b.size ≤ 60) (h0 : vS b ≠ 0) (h1 : a.size ≤ 12) (h2 : 400 < n) :
    Calls Tryd.prog 4 #[.string a, .string b, .int .i64 n] w fun e w' => e = .returned (.bool true) ∧ Below w.heap.size w w' := by
  have HL := Lib.hid (show long [a, b] = false from long_false (by intro s hs; simp at hs; rcases hs with rfl | rfl; exact ha; exact hb))
  have H0 := Lib.hid h0
  clear h0
  have HA := Lib.hid ha
  have HB0 := Lib.hid hb
  go_enter Tryd.func4, Tryd.ntmps4
  go_wp2_with fail
  obtain ⟨W0, hW0⟩ : ∃ W0, W0 = w.alloc (.cells #[.string a, .string b] 22) := ⟨_, rfl⟩
  have hc0 : ∀ i, i < 2 → W0.cell? ⟨w.heap.size, i, none⟩ = some (.string ([a, b].getD i ⟨#[]⟩)) := by rw [hW0]; exact great_cells w [a, b]
  have hB : Below w.heap.size w W0 := by rw [hW0]; exact (Below.refl _ w).alloc (Nat.le_refl _) _
  rw [← hW0]
  clear hW0
  refine (great_any W0 w.heap.size 2 [a, b] rfl (by decide) hc0).mono ?_
  rintro e _ ⟨rfl, rfl⟩
  clear hc0
  rw [HL.out]
  go_wp2_with fail
  refine (div_any a b W0 (hG.below hB) (Nat.le_trans HA.out (by decide)) (Nat.le_trans HB0.out (by decide)) H0.out).mono ?_
  rintro e w1 ⟨rfl, h⟩
  replace hB := hB.trans (h.mono hB.size)
  clear h
  go_wp2_with fail
  refine (rDiv_any a b w1 (Nat.le_trans HA.out (by decide)) (Nat.le_trans HB0.out (by decide)) H0.out).mono ?_
  rintro e w2 ⟨rfl, h⟩
  replace hB := hB.trans (h.mono hB.size)
  clear h
  go_wp2_with fail
  refine (gcd_any a b w2 (hG.below hB) (Nat.le_trans HA.out (by decide)) (Nat.le_trans HB0.out (by decide))).mono ?_
  rintro e w3 ⟨rfl, h⟩
  replace hB := hB.trans (h.mono hB.size)
  clear h
  go_wp2_with fail
  refine (rGcd_any a b w3 (Nat.le_trans HA.out (by decide)) (Nat.le_trans HB0.out (by decide))).mono ?_
  rintro e w4 ⟨rfl, h⟩
  replace hB := hB.trans (h.mono hB.size)
  clear h
  go_wp2_with fail
  refine (power_range a n w4 (.inr h2)).mono ?_
  rintro e _ ⟨rfl, rfl⟩
  go_wp2_with fail
  refine (rPower_range a n w4 (.inr h2)).mono ?_
  rintro e _ ⟨rfl, rfl⟩
  go_wp2_with fail
  refine (awake_any w4 (hG.below hB)).mono ?_
  rintro e w5 ⟨rfl, h⟩
  replace hB := hB.trans (h.mono hB.size)
  clear h
  go_wp2_with fail
  go_ret
  exact ⟨rfl, hB⟩

set_option maxRecDepth 100000 in
set_option maxHeartbeats 4000000 in
theorem divides_n4 (a b : ByteArray) (N : Nat) (w : World) (hG : Ground w) (ha : a.size ≤ 60) (hb : b.size ≤ 60) (h0 : vS b ≠ 0) (h1 : a.size ≤ 12) (h2 : N ≤ 60) :
    Calls Tryd.prog 4 #[.string a, .string b, .int .i64 (N : Int)] w fun e w' => e = .returned (.bool true) ∧ Below w.heap.size w w' := by
  have HL := Lib.hid (show long [a, b] = false from long_false (by intro s hs; simp at hs; rcases hs with rfl | rfl; exact ha; exact hb))
  have H0 := Lib.hid h0
  clear h0
  have HA := Lib.hid ha
  have HB0 := Lib.hid hb
  have ha3 : a.size ≤ 12 := by omega
  go_enter Tryd.func4, Tryd.ntmps4
  go_wp2_with fail
  obtain ⟨W0, hW0⟩ : ∃ W0, W0 = w.alloc (.cells #[.string a, .string b] 22) := ⟨_, rfl⟩
  have hc0 : ∀ i, i < 2 → W0.cell? ⟨w.heap.size, i, none⟩ = some (.string ([a, b].getD i ⟨#[]⟩)) := by rw [hW0]; exact great_cells w [a, b]
  have hB : Below w.heap.size w W0 := by rw [hW0]; exact (Below.refl _ w).alloc (Nat.le_refl _) _
  rw [← hW0]
  clear hW0
  refine (great_any W0 w.heap.size 2 [a, b] rfl (by decide) hc0).mono ?_
  rintro e _ ⟨rfl, rfl⟩
  clear hc0
  rw [HL.out]
  go_wp2_with fail
  refine (div_any a b W0 (hG.below hB) (Nat.le_trans HA.out (by decide)) (Nat.le_trans HB0.out (by decide)) H0.out).mono ?_
  rintro e w1 ⟨rfl, h⟩
  replace hB := hB.trans (h.mono hB.size)
  clear h
  go_wp2_with fail
  refine (rDiv_any a b w1 (Nat.le_trans HA.out (by decide)) (Nat.le_trans HB0.out (by decide)) H0.out).mono ?_
  rintro e w2 ⟨rfl, h⟩
  replace hB := hB.trans (h.mono hB.size)
  clear h
  go_wp2_with fail
  refine (gcd_any a b w2 (hG.below hB) (Nat.le_trans HA.out (by decide)) (Nat.le_trans HB0.out (by decide))).mono ?_
  rintro e w3 ⟨rfl, h⟩
  replace hB := hB.trans (h.mono hB.size)
  clear h
  go_wp2_with fail
  refine (rGcd_any a b w3 (Nat.le_trans HA.out (by decide)) (Nat.le_trans HB0.out (by decide))).mono ?_
  rintro e w4 ⟨rfl, h⟩
  replace hB := hB.trans (h.mono hB.size)
  clear h
  go_wp2_with fail
  refine (power_any a N w4 (hG.below hB) (Nat.le_trans HA.out (by decide)) (by omega)).mono ?_
  rintro e w5 ⟨rfl, h⟩
  replace hB := hB.trans (h.mono hB.size)
  clear h
  go_wp2_with fail
  refine (rPower_any a N w5 ha3 (by omega)).mono ?_
  rintro e w6 ⟨rfl, h⟩
  replace hB := hB.trans (h.mono hB.size)
  clear h
  go_wp2_with fail
  refine (awake_any w6 (hG.below hB)).mono ?_
  rintro e w7 ⟨rfl, h⟩
  replace hB := hB.trans (h.mono hB.size)
  clear h
  go_wp2_with fail
  go_ret
  exact ⟨rfl, hB⟩

set_option maxRecDepth 100000 in
set_option maxHeartbeats 4000000 in
theorem divides_long (a b : ByteArray) (n : Int) (w : World) (hG : Ground w) (hl : ¬ (a.size ≤ 60 ∧ b.size ≤ 60)) :
    Calls Tryd.prog 4 #[.string a, .string b, .int .i64 n] w fun e w' => e = .returned (.bool true) ∧ Below w.heap.size w w' := by
  have HL := Lib.hid (show long [a, b] = true by
    by_cases ha : a.size ≤ 60
    · exact long_true (s := b) (by simp) (by omega)
    · exact long_true (s := a) (by simp) (by omega))
  clear hl
  go_enter Tryd.func4, Tryd.ntmps4
  go_wp2_with fail
  obtain ⟨W0, hW0⟩ : ∃ W0, W0 = w.alloc (.cells #[.string a, .string b] 22) := ⟨_, rfl⟩
  have hc0 : ∀ i, i < 2 → W0.cell? ⟨w.heap.size, i, none⟩ = some (.string ([a, b].getD i ⟨#[]⟩)) := by rw [hW0]; exact great_cells w [a, b]
  have hB : Below w.heap.size w W0 := by rw [hW0]; exact (Below.refl _ w).alloc (Nat.le_refl _) _
  rw [← hW0]
  clear hW0
  refine (great_any W0 w.heap.size 2 [a, b] rfl (by decide) hc0).mono ?_
  rintro e _ ⟨rfl, rfl⟩
  clear hc0
  rw [HL.out]
  go_wp2_with fail
  refine (awake_any W0 (hG.below hB)).mono ?_
  rintro e w1 ⟨rfl, h⟩
  replace hB := hB.trans (h.mono hB.size)
  clear h
  go_wp2_with fail
  go_ret
  exact ⟨rfl, hB⟩

theorem divides_any (a b : ByteArray) (n : Int) (w : World) (hG : Ground w) :
    Calls Tryd.prog 4 #[.string a, .string b, .int .i64 n] w fun e w' => e = .returned (.bool true) ∧ Below w.heap.size w w' := by
  by_cases hl : a.size ≤ 60 ∧ b.size ≤ 60
  · obtain ⟨ha, hb⟩ := hl
    by_cases h0 : vS b = 0
    · by_cases h1 : 12 < a.size
      · exact divides_z0 a b n w hG ha hb h0 h1
      · by_cases h2 : n < 0
        · exact divides_z2 a b n w hG ha hb h0 (by omega) h2
        · by_cases h3 : 400 < n
          · exact divides_z3 a b n w hG ha hb h0 (by omega) h3
          · by_cases h4 : 60 < n
            · exact divides_z1 a b n w hG ha hb h0 (by omega) h4 (by omega)
            · obtain ⟨N, rfl⟩ := Int.eq_ofNat_of_zero_le (show 0 ≤ n by omega)
              exact divides_z4 a b N w hG ha hb h0 (by omega) (by omega)
    · by_cases h1 : 12 < a.size
      · exact divides_n0 a b n w hG ha hb h0 h1
      · by_cases h2 : n < 0
        · exact divides_n2 a b n w hG ha hb h0 (by omega) h2
        · by_cases h3 : 400 < n
          · exact divides_n3 a b n w hG ha hb h0 (by omega) h3
          · by_cases h4 : 60 < n
            · exact divides_n1 a b n w hG ha hb h0 (by omega) h4 (by omega)
            · obtain ⟨N, rfl⟩ := Int.eq_ofNat_of_zero_le (show 0 ≤ n by omega)
              exact divides_n4 a b N w hG ha hb h0 (by omega) (by omega)
  · exact divides_long a b n w hG hl

end Go.Proofs.YtaopneanfflbcaaDoor
