/- The laws' awake of layer 2: the walk. -/
import Derived.Test.YtldohkfomdcpoaaDoorFval
namespace Go.Proofs.YtldohkfomdcpoaaDoor
open Go.RowKit Fra

set_option maxRecDepth 100000 in
set_option maxHeartbeats 4000000 in
theorem fawake_any (w : World) (hG : Ground w) :
    Calls Tryd.prog 10 #[] w fun e w' => e = .returned (.bool true) ∧ Below w.heap.size w w' := by
  go_enter Tryd.func10, Tryd.ntmps10
  go_wp2_with fail
  refine (aw_half w hG).mono ?_
  rintro _ w1 ⟨rfl, hB⟩
  go_upto_region 2 with fail
  obtain ⟨b1, hb1⟩ : ∃ b, b = w1.heap.size := ⟨_, rfl⟩
  obtain ⟨W1, hW1⟩ : ∃ W, W = w1.alloc (.cells #[.string ⟨#[49]⟩, .string ⟨#[50]⟩] 24) := ⟨_, rfl⟩
  have hP1 : PairAt W1 b1 24 ⟨#[49]⟩ ⟨#[50]⟩ := by rw [hW1, hb1]; exact PairAt.made _ _ _ _
  have hB1 : Below w.heap.size w W1 := by rw [hW1]; exact hB.alloc hB.size _
  rw [← hb1, ← hW1]
  clear hW1 hb1 hB
  go_wp2_with fail
  refine (aw_third W1 (hG.below hB1)).mono ?_
  rintro _ w2 ⟨rfl, hB⟩
  have hP2 := hP1.below hB
  have hB2 := hB1.trans (hB.mono hB1.size)
  clear hB hB1 hP1
  go_upto_region 3 with fail
  obtain ⟨b2, hb2⟩ : ∃ b, b = w2.heap.size := ⟨_, rfl⟩
  obtain ⟨W2, hW2⟩ : ∃ W, W = w2.alloc (.cells #[.string ⟨#[49]⟩, .string ⟨#[51]⟩] 24) := ⟨_, rfl⟩
  have hP3 : PairAt W2 b1 24 ⟨#[49]⟩ ⟨#[50]⟩ := by rw [hW2]; exact hP2.alloc _
  have hQ3 : PairAt W2 b2 24 ⟨#[49]⟩ ⟨#[51]⟩ := by rw [hW2, hb2]; exact PairAt.made _ _ _ _
  have hB3 : Below w.heap.size w W2 := by rw [hW2]; exact hB2.alloc hB2.size _
  rw [← hb2, ← hW2]
  clear hW2 hb2 hB2 hP2
  go_wp2_with fail
  refine (aw_power W2 (hG.below hB3)).mono ?_
  rintro _ w3 ⟨rfl, hB⟩
  have hP4 := hP3.below hB
  have hQ4 := hQ3.below hB
  have hB4 := hB3.trans (hB.mono hB3.size)
  clear hB hB3 hP3 hQ3
  go_upto_region 4 with fail
  obtain ⟨b3, hb3⟩ : ∃ b, b = w3.heap.size := ⟨_, rfl⟩
  obtain ⟨W3, hW3⟩ : ∃ W, W = w3.alloc (.cells #[.string ⟨#[45, 50, 55]⟩, .string ⟨#[56]⟩] 24) := ⟨_, rfl⟩
  have hP5 : PairAt W3 b1 24 ⟨#[49]⟩ ⟨#[50]⟩ := by rw [hW3]; exact hP4.alloc _
  have hQ5 : PairAt W3 b2 24 ⟨#[49]⟩ ⟨#[51]⟩ := by rw [hW3]; exact hQ4.alloc _
  have hR5 : PairAt W3 b3 24 ⟨#[45, 50, 55]⟩ ⟨#[56]⟩ := by rw [hW3, hb3]; exact PairAt.made _ _ _ _
  have hB5 : Below w.heap.size w W3 := by rw [hW3]; exact hB4.alloc hB4.size _
  rw [← hb3, ← hW3]
  clear hW3 hb3 hB4 hP4 hQ4
  obtain ⟨p0, p1, _, _⟩ := hP5.cells
  obtain ⟨q0, q1, _, _⟩ := hQ5.cells
  go_wp2_with fail
  refine (aw_add W3 (hG.below hB5)).mono ?_
  rintro _ w4 ⟨rfl, hB⟩
  have hR6 := hR5.below hB
  have hB6 := hB5.trans (hB.mono hB5.size)
  clear hB hB5 hP5 hQ5 hR5 p0 p1 q0 q1
  obtain ⟨r0, r1, _, _⟩ := hR6.cells
  have hg1 := frac_guard .eql (.tmp 34) (.tmp 35) ⟨#[53]⟩ ⟨#[54]⟩ ⟨#[53]⟩ ⟨#[54]⟩
  have he1 := frac_same ⟨#[53]⟩ ⟨#[54]⟩
  have hg2 := frac_guard .eql (.tmp 39) (.tmp 40) ⟨#[45, 50, 55]⟩ ⟨#[56]⟩ ⟨#[45, 50, 55]⟩ ⟨#[56]⟩
  have he2 := frac_same ⟨#[45, 50, 55]⟩ ⟨#[56]⟩
  go_wp2_with fail
  refine (aw_floor w4 (hG.below hB6)).mono ?_
  rintro _ w5 ⟨rfl, hB⟩
  have hB7 := hB6.trans (hB.mono hB6.size)
  clear hB hB6 hR6 r0 r1
  go_wp2_with fail
  refine (aw_print w5 (hG.below hB7)).mono ?_
  rintro _ w6 ⟨rfl, hB⟩
  have hB8 := hB7.trans (hB.mono hB7.size)
  clear hB hB7
  go_wp2_with fail
  refine (aw_check w6 (hG.below hB8)).mono ?_
  rintro _ w7 ⟨rfl, hB⟩
  have hB9 := hB8.trans (hB.mono hB8.size)
  clear hB hB8
  go_wp2_with fail
  go_ret
  exact ⟨rfl, hB9⟩

end Go.Proofs.YtldohkfomdcpoaaDoor
