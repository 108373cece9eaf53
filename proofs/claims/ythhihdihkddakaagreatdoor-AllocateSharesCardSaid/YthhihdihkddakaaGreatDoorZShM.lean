/- The program's layer 3: goesUp, Round, Scale: the walks. -/
import Derived.Test.YthhihdihkddakaaGreatDoorZShL
import Derived.Deep.DeepCutAuto
import Derived.Laws.NewBlocks
namespace Go.Proofs.YthhihdihkddakaaGreatDoor
open Go.RowKit Fra

set_option maxHeartbeats 1000000 in
theorem dUp_1 {s : ByteArray} {q : Int} (h : Int) (w : World) (hG : Ground w) (hs : s.size ≤ 4294967295) (hq : vS s = q) :
    Calls Tryz.prog 124 #[.int .i64 1, .string s, .int .i64 h] w fun e w' => e = .returned (.tuple #[.bool (upB 1 q h), .int .i64 0]) ∧ Below w.heap.size w w' := by
  by_cases hs0 : q < 0
  · have HC := Lib.hid (cmp3_lt hs0)
    by_cases h1 : 0 < h
    · have HU := Lib.hid (show upB 1 q h = true by unfold upB; apply decide_eq_true; omega)
      clear hs0
      go_enter Tryz.func124, Tryz.ntmps124
      go_wp2_with fail
      refine (compare_v (x := q) (y := 0) (z := -1) w hs (by decide) hq vS_nil HC.out).mono ?_
      rintro _ w1 ⟨rfl, hB⟩
      go_wp2_with fail
      go_ret2
      exact ⟨by rw [HU.out]; first | rfl | (show Ending.returned (.tuple #[.bool (decide (0 < h)), .int .i64 0]) = _; rw [decide_eq_false (by omega)]) | (show Ending.returned (.tuple #[.bool (!decide (c < 0)), .int .i64 0]) = _; rw [decide_eq_false (by omega)]; rfl) | (show Ending.returned (.tuple #[.bool (decide (c < 0)), .int .i64 0]) = _; rw [decide_eq_false (by omega)]), hB⟩
    · by_cases h2 : h = 0
      · subst h2
        by_cases ho : q % 2 = 1
        · have HU := Lib.hid (show upB 1 q 0 = true by unfold upB; apply decide_eq_true; omega)
          have HO := Lib.hid (show decide (q % 2 = 1) = true from decide_eq_true (by omega))
          clear ho
          clear hs0
          go_enter Tryz.func124, Tryz.ntmps124
          go_wp2_with fail
          refine (compare_v (x := q) (y := 0) (z := -1) w hs (by decide) hq vS_nil HC.out).mono ?_
          rintro _ w1 ⟨rfl, hB⟩
          go_wp2_with fail
          refine (dOdd_any w1 (hG.below hB) hs hq).mono ?_
          rintro _ w2 ⟨rfl, hB2⟩
          rw [HO.out]
          replace hB := hB.trans (hB2.mono hB.size)
          clear hB2
          go_wp2_with fail
          go_ret2
          exact ⟨by rw [HU.out]; first | rfl | (show Ending.returned (.tuple #[.bool (decide (0 < h)), .int .i64 0]) = _; rw [decide_eq_false (by omega)]) | (show Ending.returned (.tuple #[.bool (!decide (c < 0)), .int .i64 0]) = _; rw [decide_eq_false (by omega)]; rfl) | (show Ending.returned (.tuple #[.bool (decide (c < 0)), .int .i64 0]) = _; rw [decide_eq_false (by omega)]), hB⟩
        · have HU := Lib.hid (show upB 1 q 0 = false by unfold upB; apply decide_eq_false; omega)
          have HO := Lib.hid (show decide (q % 2 = 1) = false from decide_eq_false (by omega))
          clear ho
          clear hs0
          go_enter Tryz.func124, Tryz.ntmps124
          go_wp2_with fail
          refine (compare_v (x := q) (y := 0) (z := -1) w hs (by decide) hq vS_nil HC.out).mono ?_
          rintro _ w1 ⟨rfl, hB⟩
          go_wp2_with fail
          refine (dOdd_any w1 (hG.below hB) hs hq).mono ?_
          rintro _ w2 ⟨rfl, hB2⟩
          rw [HO.out]
          replace hB := hB.trans (hB2.mono hB.size)
          clear hB2
          go_wp2_with fail
          go_ret2
          exact ⟨by rw [HU.out]; first | rfl | (show Ending.returned (.tuple #[.bool (decide (0 < h)), .int .i64 0]) = _; rw [decide_eq_false (by omega)]) | (show Ending.returned (.tuple #[.bool (!decide (c < 0)), .int .i64 0]) = _; rw [decide_eq_false (by omega)]; rfl) | (show Ending.returned (.tuple #[.bool (decide (c < 0)), .int .i64 0]) = _; rw [decide_eq_false (by omega)]), hB⟩
      · have h3 : (h == 0) = false := by simpa using h2
        have HU := Lib.hid (show upB 1 q h = false by unfold upB; apply decide_eq_false; omega)
        clear hs0 h2
        go_enter Tryz.func124, Tryz.ntmps124
        go_wp2_with fail
        refine (compare_v (x := q) (y := 0) (z := -1) w hs (by decide) hq vS_nil HC.out).mono ?_
        rintro _ w1 ⟨rfl, hB⟩
        go_wp2_with fail
        go_ret2
        exact ⟨by rw [HU.out]; first | rfl | (show Ending.returned (.tuple #[.bool (decide (0 < h)), .int .i64 0]) = _; rw [decide_eq_false (by omega)]) | (show Ending.returned (.tuple #[.bool (!decide (c < 0)), .int .i64 0]) = _; rw [decide_eq_false (by omega)]; rfl) | (show Ending.returned (.tuple #[.bool (decide (c < 0)), .int .i64 0]) = _; rw [decide_eq_false (by omega)]), hB⟩
  · obtain ⟨c, hc⟩ : ∃ c, cmp3 q 0 = c := ⟨_, rfl⟩
    have hcn : ¬ c < 0 := by rw [← hc]; unfold cmp3; split <;> (try split) <;> omega
    have HC := Lib.hid hc
    clear hc
    by_cases h1 : 0 < h
    · have HU := Lib.hid (show upB 1 q h = true by unfold upB; apply decide_eq_true; omega)
      clear hs0
      go_enter Tryz.func124, Tryz.ntmps124
      go_wp2_with fail
      refine (compare_v (x := q) (y := 0) (z := c) w hs (by decide) hq vS_nil HC.out).mono ?_
      rintro _ w1 ⟨rfl, hB⟩
      go_wp2_with fail
      go_ret2
      exact ⟨by rw [HU.out]; first | rfl | (show Ending.returned (.tuple #[.bool (decide (0 < h)), .int .i64 0]) = _; rw [decide_eq_false (by omega)]) | (show Ending.returned (.tuple #[.bool (!decide (c < 0)), .int .i64 0]) = _; rw [decide_eq_false (by omega)]; rfl) | (show Ending.returned (.tuple #[.bool (decide (c < 0)), .int .i64 0]) = _; rw [decide_eq_false (by omega)]), hB⟩
    · by_cases h2 : h = 0
      · subst h2
        by_cases ho : q % 2 = 1
        · have HU := Lib.hid (show upB 1 q 0 = true by unfold upB; apply decide_eq_true; omega)
          have HO := Lib.hid (show decide (q % 2 = 1) = true from decide_eq_true (by omega))
          clear ho
          clear hs0
          go_enter Tryz.func124, Tryz.ntmps124
          go_wp2_with fail
          refine (compare_v (x := q) (y := 0) (z := c) w hs (by decide) hq vS_nil HC.out).mono ?_
          rintro _ w1 ⟨rfl, hB⟩
          go_wp2_with fail
          refine (dOdd_any w1 (hG.below hB) hs hq).mono ?_
          rintro _ w2 ⟨rfl, hB2⟩
          rw [HO.out]
          replace hB := hB.trans (hB2.mono hB.size)
          clear hB2
          go_wp2_with fail
          go_ret2
          exact ⟨by rw [HU.out]; first | rfl | (show Ending.returned (.tuple #[.bool (decide (0 < h)), .int .i64 0]) = _; rw [decide_eq_false (by omega)]) | (show Ending.returned (.tuple #[.bool (!decide (c < 0)), .int .i64 0]) = _; rw [decide_eq_false (by omega)]; rfl) | (show Ending.returned (.tuple #[.bool (decide (c < 0)), .int .i64 0]) = _; rw [decide_eq_false (by omega)]), hB⟩
        · have HU := Lib.hid (show upB 1 q 0 = false by unfold upB; apply decide_eq_false; omega)
          have HO := Lib.hid (show decide (q % 2 = 1) = false from decide_eq_false (by omega))
          clear ho
          clear hs0
          go_enter Tryz.func124, Tryz.ntmps124
          go_wp2_with fail
          refine (compare_v (x := q) (y := 0) (z := c) w hs (by decide) hq vS_nil HC.out).mono ?_
          rintro _ w1 ⟨rfl, hB⟩
          go_wp2_with fail
          refine (dOdd_any w1 (hG.below hB) hs hq).mono ?_
          rintro _ w2 ⟨rfl, hB2⟩
          rw [HO.out]
          replace hB := hB.trans (hB2.mono hB.size)
          clear hB2
          go_wp2_with fail
          go_ret2
          exact ⟨by rw [HU.out]; first | rfl | (show Ending.returned (.tuple #[.bool (decide (0 < h)), .int .i64 0]) = _; rw [decide_eq_false (by omega)]) | (show Ending.returned (.tuple #[.bool (!decide (c < 0)), .int .i64 0]) = _; rw [decide_eq_false (by omega)]; rfl) | (show Ending.returned (.tuple #[.bool (decide (c < 0)), .int .i64 0]) = _; rw [decide_eq_false (by omega)]), hB⟩
      · have h3 : (h == 0) = false := by simpa using h2
        have HU := Lib.hid (show upB 1 q h = false by unfold upB; apply decide_eq_false; omega)
        clear hs0 h2
        go_enter Tryz.func124, Tryz.ntmps124
        go_wp2_with fail
        refine (compare_v (x := q) (y := 0) (z := c) w hs (by decide) hq vS_nil HC.out).mono ?_
        rintro _ w1 ⟨rfl, hB⟩
        go_wp2_with fail
        go_ret2
        exact ⟨by rw [HU.out]; first | rfl | (show Ending.returned (.tuple #[.bool (decide (0 < h)), .int .i64 0]) = _; rw [decide_eq_false (by omega)]) | (show Ending.returned (.tuple #[.bool (!decide (c < 0)), .int .i64 0]) = _; rw [decide_eq_false (by omega)]; rfl) | (show Ending.returned (.tuple #[.bool (decide (c < 0)), .int .i64 0]) = _; rw [decide_eq_false (by omega)]), hB⟩

set_option maxHeartbeats 1000000 in
theorem dUp_2 {s : ByteArray} {q : Int} (h : Int) (w : World) (hs : s.size ≤ 4294967295) (hq : vS s = q) :
    Calls Tryz.prog 124 #[.int .i64 2, .string s, .int .i64 h] w fun e w' => e = .returned (.tuple #[.bool (upB 2 q h), .int .i64 0]) ∧ Below w.heap.size w w' := by
  by_cases hs0 : q < 0
  · have HC := Lib.hid (cmp3_lt hs0)
    by_cases h1 : 0 < h
    · have HU := Lib.hid (show upB 2 q h = true by unfold upB; apply decide_eq_true; omega)
      clear hs0
      go_enter Tryz.func124, Tryz.ntmps124
      go_wp2_with fail
      refine (compare_v (x := q) (y := 0) (z := -1) w hs (by decide) hq vS_nil HC.out).mono ?_
      rintro _ w1 ⟨rfl, hB⟩
      go_wp2_with fail
      go_ret2
      exact ⟨by rw [HU.out]; first | rfl | (show Ending.returned (.tuple #[.bool (decide (0 < h)), .int .i64 0]) = _; rw [decide_eq_false (by omega)]) | (show Ending.returned (.tuple #[.bool (!decide (c < 0)), .int .i64 0]) = _; rw [decide_eq_false (by omega)]; rfl) | (show Ending.returned (.tuple #[.bool (decide (c < 0)), .int .i64 0]) = _; rw [decide_eq_false (by omega)]), hB⟩
    · by_cases h2 : h = 0
      · subst h2
        have HU := Lib.hid (show upB 2 q 0 = false by unfold upB; apply decide_eq_false; omega)
        clear hs0
        go_enter Tryz.func124, Tryz.ntmps124
        go_wp2_with fail
        refine (compare_v (x := q) (y := 0) (z := -1) w hs (by decide) hq vS_nil HC.out).mono ?_
        rintro _ w1 ⟨rfl, hB⟩
        go_wp2_with fail
        go_ret2
        exact ⟨by rw [HU.out]; first | rfl | (show Ending.returned (.tuple #[.bool (decide (0 < h)), .int .i64 0]) = _; rw [decide_eq_false (by omega)]) | (show Ending.returned (.tuple #[.bool (!decide (c < 0)), .int .i64 0]) = _; rw [decide_eq_false (by omega)]; rfl) | (show Ending.returned (.tuple #[.bool (decide (c < 0)), .int .i64 0]) = _; rw [decide_eq_false (by omega)]), hB⟩
      · have h3 : (h == 0) = false := by simpa using h2
        have HU := Lib.hid (show upB 2 q h = false by unfold upB; apply decide_eq_false; omega)
        clear hs0 h2
        go_enter Tryz.func124, Tryz.ntmps124
        go_wp2_with fail
        refine (compare_v (x := q) (y := 0) (z := -1) w hs (by decide) hq vS_nil HC.out).mono ?_
        rintro _ w1 ⟨rfl, hB⟩
        go_wp2_with fail
        go_ret2
        exact ⟨by rw [HU.out]; first | rfl | (show Ending.returned (.tuple #[.bool (decide (0 < h)), .int .i64 0]) = _; rw [decide_eq_false (by omega)]) | (show Ending.returned (.tuple #[.bool (!decide (c < 0)), .int .i64 0]) = _; rw [decide_eq_false (by omega)]; rfl) | (show Ending.returned (.tuple #[.bool (decide (c < 0)), .int .i64 0]) = _; rw [decide_eq_false (by omega)]), hB⟩
  · obtain ⟨c, hc⟩ : ∃ c, cmp3 q 0 = c := ⟨_, rfl⟩
    have hcn : ¬ c < 0 := by rw [← hc]; unfold cmp3; split <;> (try split) <;> omega
    have HC := Lib.hid hc
    clear hc
    by_cases h1 : 0 < h
    · have HU := Lib.hid (show upB 2 q h = true by unfold upB; apply decide_eq_true; omega)
      clear hs0
      go_enter Tryz.func124, Tryz.ntmps124
      go_wp2_with fail
      refine (compare_v (x := q) (y := 0) (z := c) w hs (by decide) hq vS_nil HC.out).mono ?_
      rintro _ w1 ⟨rfl, hB⟩
      go_wp2_with fail
      go_ret2
      exact ⟨by rw [HU.out]; first | rfl | (show Ending.returned (.tuple #[.bool (decide (0 < h)), .int .i64 0]) = _; rw [decide_eq_false (by omega)]) | (show Ending.returned (.tuple #[.bool (!decide (c < 0)), .int .i64 0]) = _; rw [decide_eq_false (by omega)]; rfl) | (show Ending.returned (.tuple #[.bool (decide (c < 0)), .int .i64 0]) = _; rw [decide_eq_false (by omega)]), hB⟩
    · by_cases h2 : h = 0
      · subst h2
        have HU := Lib.hid (show upB 2 q 0 = true by unfold upB; apply decide_eq_true; omega)
        clear hs0
        go_enter Tryz.func124, Tryz.ntmps124
        go_wp2_with fail
        refine (compare_v (x := q) (y := 0) (z := c) w hs (by decide) hq vS_nil HC.out).mono ?_
        rintro _ w1 ⟨rfl, hB⟩
        go_wp2_with fail
        go_ret2
        exact ⟨by rw [HU.out]; first | rfl | (show Ending.returned (.tuple #[.bool (decide (0 < h)), .int .i64 0]) = _; rw [decide_eq_false (by omega)]) | (show Ending.returned (.tuple #[.bool (!decide (c < 0)), .int .i64 0]) = _; rw [decide_eq_false (by omega)]; rfl) | (show Ending.returned (.tuple #[.bool (decide (c < 0)), .int .i64 0]) = _; rw [decide_eq_false (by omega)]), hB⟩
      · have h3 : (h == 0) = false := by simpa using h2
        have HU := Lib.hid (show upB 2 q h = false by unfold upB; apply decide_eq_false; omega)
        clear hs0 h2
        go_enter Tryz.func124, Tryz.ntmps124
        go_wp2_with fail
        refine (compare_v (x := q) (y := 0) (z := c) w hs (by decide) hq vS_nil HC.out).mono ?_
        rintro _ w1 ⟨rfl, hB⟩
        go_wp2_with fail
        go_ret2
        exact ⟨by rw [HU.out]; first | rfl | (show Ending.returned (.tuple #[.bool (decide (0 < h)), .int .i64 0]) = _; rw [decide_eq_false (by omega)]) | (show Ending.returned (.tuple #[.bool (!decide (c < 0)), .int .i64 0]) = _; rw [decide_eq_false (by omega)]; rfl) | (show Ending.returned (.tuple #[.bool (decide (c < 0)), .int .i64 0]) = _; rw [decide_eq_false (by omega)]), hB⟩

set_option maxHeartbeats 1000000 in
theorem dUp_3 {s : ByteArray} {q : Int} (h : Int) (w : World) (hs : s.size ≤ 4294967295) (hq : vS s = q) :
    Calls Tryz.prog 124 #[.int .i64 3, .string s, .int .i64 h] w fun e w' => e = .returned (.tuple #[.bool (upB 3 q h), .int .i64 0]) ∧ Below w.heap.size w w' := by
  by_cases hs0 : q < 0
  · have HC := Lib.hid (cmp3_lt hs0)
    have HU := Lib.hid (show upB 3 q h = true by unfold upB; apply decide_eq_true; omega)
    clear hs0
    go_enter Tryz.func124, Tryz.ntmps124
    go_wp2_with fail
    refine (compare_v (x := q) (y := 0) (z := -1) w hs (by decide) hq vS_nil HC.out).mono ?_
    rintro _ w1 ⟨rfl, hB⟩
    go_wp2_with fail
    go_ret2
    exact ⟨by rw [HU.out]; first | rfl | (show Ending.returned (.tuple #[.bool (decide (0 < h)), .int .i64 0]) = _; rw [decide_eq_false (by omega)]) | (show Ending.returned (.tuple #[.bool (!decide (c < 0)), .int .i64 0]) = _; rw [decide_eq_false (by omega)]; rfl) | (show Ending.returned (.tuple #[.bool (decide (c < 0)), .int .i64 0]) = _; rw [decide_eq_false (by omega)]), hB⟩
  · obtain ⟨c, hc⟩ : ∃ c, cmp3 q 0 = c := ⟨_, rfl⟩
    have hcn : ¬ c < 0 := by rw [← hc]; unfold cmp3; split <;> (try split) <;> omega
    have HC := Lib.hid hc
    clear hc
    have HU := Lib.hid (show upB 3 q h = false by unfold upB; apply decide_eq_false; omega)
    clear hs0
    go_enter Tryz.func124, Tryz.ntmps124
    go_wp2_with fail
    refine (compare_v (x := q) (y := 0) (z := c) w hs (by decide) hq vS_nil HC.out).mono ?_
    rintro _ w1 ⟨rfl, hB⟩
    go_wp2_with fail
    go_ret2
    exact ⟨by rw [HU.out]; first | rfl | (show Ending.returned (.tuple #[.bool (decide (0 < h)), .int .i64 0]) = _; rw [decide_eq_false (by omega)]) | (show Ending.returned (.tuple #[.bool (!decide (c < 0)), .int .i64 0]) = _; rw [decide_eq_false (by omega)]; rfl) | (show Ending.returned (.tuple #[.bool (decide (c < 0)), .int .i64 0]) = _; rw [decide_eq_false (by omega)]), hB⟩

set_option maxHeartbeats 1000000 in
theorem dUp_4 {s : ByteArray} {q : Int} (h : Int) (w : World) (hs : s.size ≤ 4294967295) (hq : vS s = q) :
    Calls Tryz.prog 124 #[.int .i64 4, .string s, .int .i64 h] w fun e w' => e = .returned (.tuple #[.bool (upB 4 q h), .int .i64 0]) ∧ Below w.heap.size w w' := by
  by_cases hs0 : q < 0
  · have HC := Lib.hid (cmp3_lt hs0)
    have HU := Lib.hid (show upB 4 q h = false by unfold upB; apply decide_eq_false; omega)
    clear hs0
    go_enter Tryz.func124, Tryz.ntmps124
    go_wp2_with fail
    refine (compare_v (x := q) (y := 0) (z := -1) w hs (by decide) hq vS_nil HC.out).mono ?_
    rintro _ w1 ⟨rfl, hB⟩
    go_wp2_with fail
    go_ret2
    exact ⟨by rw [HU.out]; first | rfl | (show Ending.returned (.tuple #[.bool (decide (0 < h)), .int .i64 0]) = _; rw [decide_eq_false (by omega)]) | (show Ending.returned (.tuple #[.bool (!decide (c < 0)), .int .i64 0]) = _; rw [decide_eq_false (by omega)]; rfl) | (show Ending.returned (.tuple #[.bool (decide (c < 0)), .int .i64 0]) = _; rw [decide_eq_false (by omega)]), hB⟩
  · obtain ⟨c, hc⟩ : ∃ c, cmp3 q 0 = c := ⟨_, rfl⟩
    have hcn : ¬ c < 0 := by rw [← hc]; unfold cmp3; split <;> (try split) <;> omega
    have HC := Lib.hid hc
    clear hc
    have HU := Lib.hid (show upB 4 q h = true by unfold upB; apply decide_eq_true; omega)
    clear hs0
    go_enter Tryz.func124, Tryz.ntmps124
    go_wp2_with fail
    refine (compare_v (x := q) (y := 0) (z := c) w hs (by decide) hq vS_nil HC.out).mono ?_
    rintro _ w1 ⟨rfl, hB⟩
    go_wp2_with fail
    go_ret2
    exact ⟨by rw [HU.out]; first | rfl | (show Ending.returned (.tuple #[.bool (decide (0 < h)), .int .i64 0]) = _; rw [decide_eq_false (by omega)]) | (show Ending.returned (.tuple #[.bool (!decide (c < 0)), .int .i64 0]) = _; rw [decide_eq_false (by omega)]; rfl) | (show Ending.returned (.tuple #[.bool (decide (c < 0)), .int .i64 0]) = _; rw [decide_eq_false (by omega)]), hB⟩

set_option maxHeartbeats 1000000 in
theorem dUp_5 {s : ByteArray} {q : Int} (h : Int) (w : World) (hs : s.size ≤ 4294967295) (hq : vS s = q) :
    Calls Tryz.prog 124 #[.int .i64 5, .string s, .int .i64 h] w fun e w' => e = .returned (.tuple #[.bool (upB 5 q h), .int .i64 0]) ∧ Below w.heap.size w w' := by
  by_cases hs0 : q < 0
  · have HC := Lib.hid (cmp3_lt hs0)
    have HU := Lib.hid (show upB 5 q h = false by unfold upB; apply decide_eq_false; omega)
    clear hs0
    go_enter Tryz.func124, Tryz.ntmps124
    go_wp2_with fail
    refine (compare_v (x := q) (y := 0) (z := -1) w hs (by decide) hq vS_nil HC.out).mono ?_
    rintro _ w1 ⟨rfl, hB⟩
    go_wp2_with fail
    go_ret2
    exact ⟨by rw [HU.out]; first | rfl | (show Ending.returned (.tuple #[.bool (decide (0 < h)), .int .i64 0]) = _; rw [decide_eq_false (by omega)]) | (show Ending.returned (.tuple #[.bool (!decide (c < 0)), .int .i64 0]) = _; rw [decide_eq_false (by omega)]; rfl) | (show Ending.returned (.tuple #[.bool (decide (c < 0)), .int .i64 0]) = _; rw [decide_eq_false (by omega)]), hB⟩
  · obtain ⟨c, hc⟩ : ∃ c, cmp3 q 0 = c := ⟨_, rfl⟩
    have hcn : ¬ c < 0 := by rw [← hc]; unfold cmp3; split <;> (try split) <;> omega
    have HC := Lib.hid hc
    clear hc
    have HU := Lib.hid (show upB 5 q h = false by unfold upB; apply decide_eq_false; omega)
    clear hs0
    go_enter Tryz.func124, Tryz.ntmps124
    go_wp2_with fail
    refine (compare_v (x := q) (y := 0) (z := c) w hs (by decide) hq vS_nil HC.out).mono ?_
    rintro _ w1 ⟨rfl, hB⟩
    go_wp2_with fail
    go_ret2
    exact ⟨by rw [HU.out]; first | rfl | (show Ending.returned (.tuple #[.bool (decide (0 < h)), .int .i64 0]) = _; rw [decide_eq_false (by omega)]) | (show Ending.returned (.tuple #[.bool (!decide (c < 0)), .int .i64 0]) = _; rw [decide_eq_false (by omega)]; rfl) | (show Ending.returned (.tuple #[.bool (decide (c < 0)), .int .i64 0]) = _; rw [decide_eq_false (by omega)]), hB⟩

set_option maxHeartbeats 1000000 in
theorem dUp_6 {s : ByteArray} {q : Int} (h : Int) (w : World) (hs : s.size ≤ 4294967295) (hq : vS s = q) :
    Calls Tryz.prog 124 #[.int .i64 6, .string s, .int .i64 h] w fun e w' => e = .returned (.tuple #[.bool (upB 6 q h), .int .i64 0]) ∧ Below w.heap.size w w' := by
  by_cases hs0 : q < 0
  · have HC := Lib.hid (cmp3_lt hs0)
    have HU := Lib.hid (show upB 6 q h = true by unfold upB; apply decide_eq_true; omega)
    clear hs0
    go_enter Tryz.func124, Tryz.ntmps124
    go_wp2_with fail
    refine (compare_v (x := q) (y := 0) (z := -1) w hs (by decide) hq vS_nil HC.out).mono ?_
    rintro _ w1 ⟨rfl, hB⟩
    go_wp2_with fail
    go_ret2
    exact ⟨by rw [HU.out]; first | rfl | (show Ending.returned (.tuple #[.bool (decide (0 < h)), .int .i64 0]) = _; rw [decide_eq_false (by omega)]) | (show Ending.returned (.tuple #[.bool (!decide (c < 0)), .int .i64 0]) = _; rw [decide_eq_false (by omega)]; rfl) | (show Ending.returned (.tuple #[.bool (decide (c < 0)), .int .i64 0]) = _; rw [decide_eq_false (by omega)]), hB⟩
  · obtain ⟨c, hc⟩ : ∃ c, cmp3 q 0 = c := ⟨_, rfl⟩
    have hcn : ¬ c < 0 := by rw [← hc]; unfold cmp3; split <;> (try split) <;> omega
    have HC := Lib.hid hc
    clear hc
    have HU := Lib.hid (show upB 6 q h = true by unfold upB; apply decide_eq_true; omega)
    clear hs0
    go_enter Tryz.func124, Tryz.ntmps124
    go_wp2_with fail
    refine (compare_v (x := q) (y := 0) (z := c) w hs (by decide) hq vS_nil HC.out).mono ?_
    rintro _ w1 ⟨rfl, hB⟩
    go_wp2_with fail
    go_ret2
    exact ⟨by rw [HU.out]; first | rfl | (show Ending.returned (.tuple #[.bool (decide (0 < h)), .int .i64 0]) = _; rw [decide_eq_false (by omega)]) | (show Ending.returned (.tuple #[.bool (!decide (c < 0)), .int .i64 0]) = _; rw [decide_eq_false (by omega)]; rfl) | (show Ending.returned (.tuple #[.bool (decide (c < 0)), .int .i64 0]) = _; rw [decide_eq_false (by omega)]), hB⟩

theorem dUp_any {s : ByteArray} {q m : Int} (h : Int) (w : World) (hG : Ground w) (hs : s.size ≤ 4294967295) (hq : vS s = q) (h1 : 1 ≤ m) (h6 : m ≤ 6) :
    Calls Tryz.prog 124 #[.int .i64 m, .string s, .int .i64 h] w fun e w' => e = .returned (.tuple #[.bool (upB m q h), .int .i64 0]) ∧ Below w.heap.size w w' := by
  have : m = 1 ∨ m = 2 ∨ m = 3 ∨ m = 4 ∨ m = 5 ∨ m = 6 := by omega
  rcases this with rfl | rfl | rfl | rfl | rfl | rfl
  · exact dUp_1 h w hG hs hq
  · exact dUp_2 h w hs hq
  · exact dUp_3 h w hs hq
  · exact dUp_4 h w hs hq
  · exact dUp_5 h w hs hq
  · exact dUp_6 h w hs hq

/-! ### Round -/
/-- what Round asks for -/
structure RoundAt (n d : ByteArray) (x : Int × Int) (q r : Int) : Prop where
  val : Val n d x
  fq : Int.fdiv (low x).1 (low x).2 = q
  fr : Int.fmod (low x).1 (low x).2 = r
  s1 : (cS (low x).1).size ≤ 4294967295
  s2 : (cS (low x).2).size ≤ 4294967295
  s3 : (cS q).size ≤ 4294967295
  s4 : (cS r).size ≤ 4294967295
  s5 : (cS (r + r)).size ≤ 4294967295
  pos : (low x).2 ≠ 0
theorem Cap.fdiv' {k : Nat} {n d : Int} (h : Cap k n) (hd : 0 < d) : Cap (k + 1) (Int.fdiv n d) := by
  have hb := floor_bounds (n := n) hd
  unfold Cap at *
  rw [Nat.pow_succ]
  generalize Int.fdiv n d = q at *
  have h1 : q ≤ n.natAbs := by
    rcases Int.lt_or_le q 1 with h | h
    · omega
    · have := Int.mul_le_mul_of_nonneg_left (show (1 : Int) ≤ d by omega) (show 0 ≤ q by omega); omega
  have h2 : -(n.natAbs : Int) - 1 ≤ q := by
    rcases Int.lt_or_le q (-1) with h | h
    · have := Int.mul_le_mul_of_nonpos_left (show q + 1 ≤ 0 by omega) (show (1 : Int) ≤ d by omega); omega
    · omega
  omega
theorem RoundAt.of {n d : ByteArray} {x : Int × Int} (h : Val n d x) : RoundAt n d x (Int.fdiv (low x).1 (low x).2) (rest (low x)) := by
  have hx := h.pos
  have hc : CapP 100000 x := by rw [← h.1]; exact CapP.of_raw (by decide) (le_k h.2.1) (le_k h.2.2)
  have hl := CapP.low hc hx
  have hp := low_pos hx
  have hq := Cap.fdiv' hl.1 hp
  have hr : Cap 100000 (rest (low x)) := by
    obtain ⟨r1, r2⟩ := rest_bounds (x := low x) hp
    have h2 := hl.2
    unfold Cap at *
    omega
  refine ⟨h, rfl, rest_fmod, ?_, ?_, ?_, ?_, ?_, by omega⟩
  · have := cS_size hl.1; omega
  · have := cS_size hl.2; omega
  · have := cS_size hq; omega
  · have := cS_size hr; omega
  · have := cS_size (Cap.add hr hr); omega

set_option maxRecDepth 100000 in
set_option maxHeartbeats 2000000 in
theorem dRound_v {n d : ByteArray} {x : Int × Int} {m z : Int} (w : World) (hG : Ground w) (h : Val n d x) (h1 : 1 ≤ m) (h6 : m ≤ 6) (hz : rnd m x = z) :
    Calls Tryz.prog 71 #[.agg #[.string n, .string d], .int .i64 m] w fun e w' => e = .returned (.tuple #[.string (cS z), .int .i64 0]) ∧ Below w.heap.size w w' := by
  have hxp := h.pos
  have HA := Lib.hid (RoundAt.of h)
  rw [← rnd_low hxp] at hz
  unfold rnd at hz
  obtain ⟨q, hq⟩ : ∃ q, Int.fdiv (low x).1 (low x).2 = q := ⟨_, rfl⟩
  obtain ⟨r, hr⟩ : ∃ r, rest (low x) = r := ⟨_, rfl⟩
  rw [hq, hr] at HA hz
  rw [rndR_up] at hz
  obtain ⟨c, hc⟩ : ∃ c, cmp3 (r + r) (low x).2 = c := ⟨_, rfl⟩
  rw [show 2 * r = r + r by omega, hc] at hz
  have HC := Lib.hid hc
  clear hq hr h hxp hc
  by_cases h0 : r = 0
  · have HZ := Lib.hid (show cS r = ⟨#[]⟩ by rw [h0, cS_zero])
    have HE := Lib.hid (show cS z = cS q by rw [← hz, if_pos h0])
    clear hz h0
    obtain ⟨W0, hW0⟩ : ∃ W0, W0 = w.alloc (.cells #[.string n, .string d] 36) := ⟨_, rfl⟩
    have hB0 : Below w.heap.size w W0 := by rw [hW0]; exact (Below.refl _ _).alloc (Nat.le_refl _) _
    go_enter Tryz.func71, Tryz.ntmps71
    go_wp2_with fail
    rw [← hW0]
    clear hW0
    refine (fParts_v W0 (hG.below hB0) HA.out.val rfl).mono ?_
    rintro _ w1 ⟨rfl, hB⟩
    replace hB := hB0.trans (hB.mono hB0.size)
    clear hB0
    go_wp2_with fail
    refine (div_v w1 (hG.below hB) HA.out.s1 HA.out.s2 (vS_cS _) (vS_cS _) HA.out.pos HA.out.fq HA.out.fr).mono ?_
    rintro _ w2 ⟨rfl, hB2⟩
    replace hB := hB.trans (hB2.mono hB.size)
    clear hB2
    go_wp2_with fail
    refine (add_v (x := r) (y := r) w2 (hG.below hB) HA.out.s4 HA.out.s4 (vS_cS _) (vS_cS _) rfl).mono ?_
    rintro _ w3 ⟨rfl, hB2⟩
    replace hB := hB.trans (hB2.mono hB.size)
    clear hB2
    go_wp2_with fail
    refine (compare_v (x := r + r) (y := (low x).2) w3 HA.out.s5 HA.out.s2 (vS_cS _) (vS_cS _) HC.out).mono ?_
    rintro _ w4 ⟨rfl, hB2⟩
    replace hB := hB.trans (hB2.mono hB.size)
    clear hB2
    go_wp2_with fail
    refine (dUp_any c w4 (hG.below hB) HA.out.s3 (vS_cS q) h1 h6).mono ?_
    rintro _ w5 ⟨rfl, hB2⟩
    replace hB := hB.trans (hB2.mono hB.size)
    clear hB2
    rw [HZ.out]
    go_wp2_with fail
    go_ret2
    exact ⟨by rw [HE.out]; rfl, hB⟩
  · rw [if_neg h0] at hz
    have hne : ((cS r).toList.isEmpty) = false := by rw [eq_nil]; exact decide_eq_false h0
    obtain ⟨sr, hsr⟩ : ∃ sr, sr = cS r := ⟨_, rfl⟩
    have HSR := Lib.hid hsr
    rw [← hsr] at hne
    clear h0 hsr
    cases hu : upB m q c
    · have HE := Lib.hid (show cS z = cS q by rw [← hz, hu]; rfl)
      have HU := Lib.hid hu
      clear hz hu
      obtain ⟨W0, hW0⟩ : ∃ W0, W0 = w.alloc (.cells #[.string n, .string d] 36) := ⟨_, rfl⟩
      have hB0 : Below w.heap.size w W0 := by rw [hW0]; exact (Below.refl _ _).alloc (Nat.le_refl _) _
      go_enter Tryz.func71, Tryz.ntmps71
      go_wp2_with fail
      rw [← hW0]
      clear hW0
      refine (fParts_v W0 (hG.below hB0) HA.out.val rfl).mono ?_
      rintro _ w1 ⟨rfl, hB⟩
      replace hB := hB0.trans (hB.mono hB0.size)
      clear hB0
      go_wp2_with fail
      refine (div_v w1 (hG.below hB) HA.out.s1 HA.out.s2 (vS_cS _) (vS_cS _) HA.out.pos HA.out.fq HA.out.fr).mono ?_
      rintro _ w2 ⟨rfl, hB2⟩
      replace hB := hB.trans (hB2.mono hB.size)
      clear hB2
      go_wp2_with fail
      refine (add_v (x := r) (y := r) w2 (hG.below hB) HA.out.s4 HA.out.s4 (vS_cS _) (vS_cS _) rfl).mono ?_
      rintro _ w3 ⟨rfl, hB2⟩
      replace hB := hB.trans (hB2.mono hB.size)
      clear hB2
      go_wp2_with fail
      refine (compare_v (x := r + r) (y := (low x).2) w3 HA.out.s5 HA.out.s2 (vS_cS _) (vS_cS _) HC.out).mono ?_
      rintro _ w4 ⟨rfl, hB2⟩
      replace hB := hB.trans (hB2.mono hB.size)
      clear hB2
      go_wp2_with fail
      refine (dUp_any c w4 (hG.below hB) HA.out.s3 (vS_cS q) h1 h6).mono ?_
      rintro _ w5 ⟨rfl, hB2⟩
      replace hB := hB.trans (hB2.mono hB.size)
      clear hB2
      rw [HU.out, ← HSR.out]
      go_wp2_with fail
      go_ret2
      exact ⟨by rw [HE.out]; rfl, hB⟩
    · have HE := Lib.hid (show q + 1 = z by rw [← hz, hu]; rfl)
      have HU := Lib.hid hu
      clear hz hu
      obtain ⟨W0, hW0⟩ : ∃ W0, W0 = w.alloc (.cells #[.string n, .string d] 36) := ⟨_, rfl⟩
      have hB0 : Below w.heap.size w W0 := by rw [hW0]; exact (Below.refl _ _).alloc (Nat.le_refl _) _
      go_enter Tryz.func71, Tryz.ntmps71
      go_wp2_with fail
      rw [← hW0]
      clear hW0
      refine (fParts_v W0 (hG.below hB0) HA.out.val rfl).mono ?_
      rintro _ w1 ⟨rfl, hB⟩
      replace hB := hB0.trans (hB.mono hB0.size)
      clear hB0
      go_wp2_with fail
      refine (div_v w1 (hG.below hB) HA.out.s1 HA.out.s2 (vS_cS _) (vS_cS _) HA.out.pos HA.out.fq HA.out.fr).mono ?_
      rintro _ w2 ⟨rfl, hB2⟩
      replace hB := hB.trans (hB2.mono hB.size)
      clear hB2
      go_wp2_with fail
      refine (add_v (x := r) (y := r) w2 (hG.below hB) HA.out.s4 HA.out.s4 (vS_cS _) (vS_cS _) rfl).mono ?_
      rintro _ w3 ⟨rfl, hB2⟩
      replace hB := hB.trans (hB2.mono hB.size)
      clear hB2
      go_wp2_with fail
      refine (compare_v (x := r + r) (y := (low x).2) w3 HA.out.s5 HA.out.s2 (vS_cS _) (vS_cS _) HC.out).mono ?_
      rintro _ w4 ⟨rfl, hB2⟩
      replace hB := hB.trans (hB2.mono hB.size)
      clear hB2
      go_wp2_with fail
      refine (dUp_any c w4 (hG.below hB) HA.out.s3 (vS_cS q) h1 h6).mono ?_
      rintro _ w5 ⟨rfl, hB2⟩
      replace hB := hB.trans (hB2.mono hB.size)
      clear hB2
      rw [HU.out, ← HSR.out]
      go_wp2_with fail
      refine (add_v (x := q) (y := 1) w5 (hG.below hB) HA.out.s3 (by decide) (vS_cS _) vS_one HE.out).mono ?_
      rintro _ w6 ⟨rfl, hB2⟩
      replace hB := hB.trans (hB2.mono hB.size)
      clear hB2
      go_wp2_with fail
      go_ret2
      exact ⟨rfl, hB⟩

end Go.Proofs.YthhihdihkddakaaGreatDoor

/- The program's layer 3: read, Text, Scale, Format, Fraction, Parse: the walks. -/
namespace Go.Proofs.YthhihdihkddakaaGreatDoor
open Go.RowKit Fra

/-- the text ahead of the first point, and behind it -/
def befS (s : ByteArray) : ByteArray := ⟨(Num.bef s.data.toList).toArray⟩
def behS (s : ByteArray) : ByteArray := ⟨(Num.beh s.data.toList).toArray⟩
theorem befS_size (s : ByteArray) : (befS s).size + (behS s).size ≤ s.size := by
  have h := Num.beh_length s.data.toList
  rw [size_toList] at h
  rw [← size_toList (befS s), ← size_toList (behS s)]
  exact h
theorem behS_len (s : ByteArray) : (behS s).size = (Num.beh s.data.toList).length := by rw [← size_toList (behS s)]; rfl
theorem join_list (s : ByteArray) : (befS s ++ behS s).data.toList = Num.bef s.data.toList ++ Num.beh s.data.toList := by
  rw [ByteArray.data_append, Array.toList_append]; rfl
/-- the units that the program reads -/
def unitsS (s : ByteArray) : Int := Num.val (Num.bef s.data.toList ++ Num.beh s.data.toList)
theorem vS_join (s : ByteArray) : vS (befS s ++ behS s) = unitsS s := by unfold vS unitsS; rw [join_list]
theorem units_cap (s : ByteArray) : Cap s.size (unitsS s) := by
  have h := vS_lt (befS s ++ behS s)
  rw [vS_join] at h
  have h2 := befS_size s
  refine Cap.mono h ?_
  rw [ByteArray.size_append]
  exact h2
/-- is it a decimal text? -/
def isDecS (s : ByteArray) : Bool := Num.isDec s.data.toList
def unitsD (s : ByteArray) : Int := Num.decU s.data.toList
def placesD (s : ByteArray) : Nat := Num.decP s.data.toList
theorem unitsS_good {s : ByteArray} (h : isDecS s = true) : unitsS s = unitsD s := Num.val_units h
theorem behS_good (s : ByteArray) : (behS s).size = placesD s := by rw [behS_len, Num.beh_eq]; rfl

/-! ### Text, Scale, Format -/
theorem tens_size (p : Nat) : (cS ((10 : Int) ^ p)).size ≤ p + 1 := by
  rw [cS_pow]
  show (49 :: List.replicate p (48 : UInt8)).toArray.size ≤ _
  simp
theorem tens_cap (p : Nat) : Cap (p + 1) ((10 : Int) ^ p) := by
  unfold Cap
  rw [Int.natAbs_pow]
  show 10 ^ p < 10 ^ (p + 1)
  exact Nat.pow_lt_pow_right (by decide) (by omega)
/-- from whatever memory: the function returns this, and nothing that was there has changed -/
def Ret (f : FuncId) (args : Array Value) (v : Value) : Prop := ∀ W, Ground W → Calls Tryz.prog f args W fun r w' => r = .returned v ∧ Below W.heap.size W w'
theorem Ret.call {f : FuncId} {args : Array Value} {v : Value} (h : Ret f args v) (W : World) (hG : Ground W) : Calls Tryz.prog f args W fun r w' => r = .returned v ∧ Below W.heap.size W w' := h W hG
/-- a string and an error -/
abbrev two (u : ByteArray) (c : Int) : Value := .tuple #[.string u, .int .i64 c]

theorem round_ok {n d : ByteArray} {x : Int × Int} {m z : Int} (h : Val n d x) (h1 : 1 ≤ m) (h6 : m ≤ 6) (hz : rnd m x = z) : Ret 71 #[.agg #[.string n, .string d], .int .i64 m] (two (cS z) 0) :=
  fun W hG => dRound_v W hG h h1 h6 hz
end Go.Proofs.YthhihdihkddakaaGreatDoor

/- The program's layer 3: Fraction, Parse: the walks. -/
namespace Go.Proofs.YthhihdihkddakaaGreatDoor
open Go.RowKit Fra

/-- what read answers -/
abbrev three (u : ByteArray) (p c : Int) : Value := .tuple #[.string u, .int .i64 p, .int .i64 c]
theorem placesD_le (s : ByteArray) : placesD s ≤ s.size := by have h1 := behS_good s; have h2 := befS_size s; omega
theorem unitsD_cap {s : ByteArray} (hg : isDecS s = true) : Cap s.size (unitsD s) := by rw [← unitsS_good hg]; exact units_cap s

/-- a fraction and an error -/
abbrev fraE (u v : ByteArray) (c : Int) : Value := .tuple #[.agg #[.string u, .string v], .int .i64 c]

/-! ### Parse -/
/-- what Parse reckons with -/
structure ParseAt (s : ByteArray) (p : Nat) (a b q r : Int) : Prop where
  ea : unitsD s * (10 : Int) ^ p = a
  eb : (10 : Int) ^ placesD s = b
  eq : Int.fdiv a b = q
  er : Int.fmod a b = r
  s1 : (cS (unitsD s)).size ≤ 4294967295
  s2 : (cS ((10 : Int) ^ p)).size ≤ 4294967295
  s3 : (cS a).size ≤ 4294967295
  s4 : (cS b).size ≤ 4294967295
  p1 : p ≤ 1000000
  p2 : placesD s ≤ 1000000
  b0 : b ≠ 0
theorem ParseAt.of {s : ByteArray} {p : Nat} (hs : s.size ≤ 65536) (hg : isDecS s = true) (hp : p ≤ 12) :
    ParseAt s p (unitsD s * (10 : Int) ^ p) ((10 : Int) ^ placesD s) (Int.fdiv (unitsD s * (10 : Int) ^ p) ((10 : Int) ^ placesD s)) (Int.fmod (unitsD s * (10 : Int) ^ p) ((10 : Int) ^ placesD s)) := by
  have h1 := placesD_le s
  have h2 := tens_size (placesD s)
  have h3 := tens_size p
  have h4 := unitsD_cap hg
  have h5 := cS_size h4
  have h6 := cS_size (Cap.mul h4 (tens_cap p))
  have h7 := Num.pow10 (placesD s)
  exact ⟨rfl, rfl, rfl, rfl, by omega, by omega, by omega, by omega, by omega, by omega, by omega⟩

end Go.Proofs.YthhihdihkddakaaGreatDoor

/- The program's layer 3: remove, Finite: the walks. -/
namespace Go.Proofs.YthhihdihkddakaaGreatDoor
open Go.RowKit Fra

theorem nat_fdiv (a b : Nat) : Int.fdiv (a : Int) (b : Int) = ((a / b : Nat) : Int) := by
  rw [Int.fdiv_eq_ediv_of_nonneg _ (by omega)]; rfl
theorem nat_fmod (a b : Nat) : Int.fmod (a : Int) (b : Int) = ((a % b : Nat) : Int) := by
  rw [Int.fmod_eq_emod_of_nonneg _ (by omega)]; rfl

/-- two numbers, of k digits and of twice as many -/
structure RemAt (k f d : Nat) : Prop where
  f2 : 2 ≤ f
  d0 : 0 < d
  cf : f < 10 ^ (k + k)
  cd : d < 10 ^ k
  k1 : k ≤ 200000
theorem RemAt.s1 {k f d : Nat} (h : RemAt k f d) : (cS (f : Int)).size ≤ 4294967295 := by
  have h1 := h.cf; have h2 := h.k1
  have := cS_size (z := (f : Int)) (k := k + k) (by omega)
  omega
theorem RemAt.s2 {k f d : Nat} (h : RemAt k f d) : (cS (d : Int)).size ≤ 4294967295 := by
  have h1 := h.cd; have h2 := h.k1
  have := cS_size (z := (d : Int)) (k := k) (by omega)
  omega
theorem RemAt.next {k f d : Nat} (h : RemAt k f d) (h0 : d % f = 0) : RemAt k (f * f) (d / f) := by
  have h2 := h.f2
  have hfd : f ≤ d := Nat.le_of_dvd h.d0 (Nat.dvd_of_mod_eq_zero h0)
  have hf : f < 10 ^ k := Nat.lt_of_le_of_lt hfd h.cd
  refine ⟨?_, Nat.div_pos hfd (by omega), ?_, Nat.lt_of_le_of_lt (Nat.div_le_self _ _) h.cd, h.k1⟩
  · have := Nat.mul_le_mul h2 h2; omega
  · rw [Nat.pow_add]; exact Nat.mul_lt_mul'' hf hf
theorem RemAt.rest {k f d : Nat} (h : RemAt k f d) : RemAt k f (Num.tm (f * f) d).2 :=
  ⟨h.f2, Num.tm_pos h.d0, h.cf, Nat.lt_of_le_of_lt (Num.tm_le (by have := Nat.mul_le_mul h.f2 h.f2; omega)) h.cd, h.k1⟩
theorem RemAt.few {k f d : Nat} (h : RemAt k f d) : (Num.tm f d).1 < 4 * 200000 := by
  have := Num.tm_few h.f2 h.d0 h.cd
  have := h.k1
  omega

theorem RemAt.of {k f D : Nat} (h : Cap k (D : Int)) (h0 : 0 < D) (hf : 2 ≤ f) (hf9 : f ≤ 9) (h1 : 1 ≤ k) (hk : k ≤ 200000) : RemAt k f D := by
  refine ⟨hf, h0, ?_, by unfold Cap at h; omega, hk⟩
  have h2 : 10 ^ 1 ≤ 10 ^ (k + k) := Nat.pow_le_pow_right (by decide) (by omega)
  omega
/-! ### Finite -/
end Go.Proofs.YthhihdihkddakaaGreatDoor

/- The reference implementation of layer 3: mode, places, power, even, digits, divided: the walks. -/
namespace Go.Proofs.YthhihdihkddakaaGreatDoor
open Go.RowKit Fra

def okM (n : Int) : Bool := decide (1 ≤ n ∧ n ≤ 6)
theorem okM_true {n : Int} (h1 : 1 ≤ n) (h2 : n ≤ 6) : okM n = true := decide_eq_true ⟨h1, h2⟩
theorem okM_false {n : Int} (h : n < 1 ∨ 6 < n) : okM n = false := decide_eq_false (fun k => by omega)
theorem kMode (n : Int) (w : World) :
    Calls Tryz.prog 126 #[.int .i64 n] w fun e w' => e = .returned (.bool (okM n)) ∧ w = w' := by
  by_cases h1 : 1 ≤ n
  · by_cases h2 : n ≤ 6
    · have HD := Lib.hid (okM_true h1 h2)
      go_enter Tryz.func126, Tryz.ntmps126
      go_wp2_with fail
      go_ret
      exact ⟨by rw [HD.out]; rfl, rfl⟩
    · have HD := Lib.hid (okM_false (n := n) (by omega))
      go_enter Tryz.func126, Tryz.ntmps126
      go_wp2_with fail
      go_ret
      exact ⟨by rw [HD.out]; rfl, rfl⟩
  · have HD := Lib.hid (okM_false (n := n) (by omega))
    go_enter Tryz.func126, Tryz.ntmps126
    go_wp2_with fail
    go_ret
    exact ⟨by rw [HD.out]; rfl, rfl⟩
/-! ### even -/
theorem decDigits_last (n : Nat) : ∃ l, Lib.decDigits n = l ++ [UInt8.ofNat (48 + n % 10)] := by
  by_cases h : n < 10
  · exact ⟨[], by rw [Lib.decDigits_one h, Nat.mod_eq_of_lt h]; rfl⟩
  · exact ⟨Lib.decDigits (n / 10), by conv => lhs; rw [Lib.decDigits, dif_neg h]⟩
theorem cS_last {z : Int} (h : z ≠ 0) : ∃ l : List UInt8, (cS z).data.toList = l ++ [UInt8.ofNat (48 + z.natAbs % 10)] := by
  obtain ⟨l, hl⟩ := decDigits_last z.natAbs
  have e : Num.digs z.natAbs = Lib.decDigits z.natAbs := by unfold Num.digs; rw [if_neg (by omega)]
  unfold cS Num.canon
  by_cases hn : z < 0
  · rw [if_pos hn, e, hl]; exact ⟨45 :: l, rfl⟩
  · rw [if_neg hn, e, hl]; exact ⟨l, rfl⟩
set_option maxHeartbeats 1000000 in
theorem kEven {s : ByteArray} {z : Int} (w : World) (hs : s.size ≤ 4294967296) (hz : vS s = z) :
    Calls Tryz.prog 163 #[.string s] w fun e w' => e = .returned (.bool (decide (z % 2 = 0))) ∧ w = w' := by
  have HC := Lib.hid (show ∀ W, Calls Tryz.prog 125 #[.string s] W fun e w' => e = .returned (.string (cS z)) ∧ W = w' from fun W => by rw [← hz]; exact rCanonical_any s W hs)
  by_cases h0 : z = 0
  · have HZ := Lib.hid (show cS z = ⟨#[]⟩ by rw [h0, cS_zero])
    have HD := Lib.hid (show decide (z % 2 = 0) = true from decide_eq_true (by omega))
    clear h0 hz
    go_enter Tryz.func163, Tryz.ntmps163
    go_wp2_with fail
    refine (HC.out w).mono ?_
    rintro _ _ ⟨rfl, rfl⟩
    rw [HZ.out]
    go_wp2_with fail
    go_ret
    exact ⟨by rw [HD.out]; rfl, rfl⟩
  · obtain ⟨l, hl⟩ := cS_last h0
    have hsz : (cS z).size ≤ s.size + 1 := cS_size (by rw [← hz]; exact vS_lt s)
    have hne : ((cS z).toList.isEmpty) = false := by rw [eq_nil]; exact decide_eq_false h0
    obtain ⟨t, ht⟩ : ∃ t, t = cS z := ⟨_, rfl⟩
    have HT := Lib.hid ht
    rw [← ht] at hl hne hsz
    have hls : t.size = l.length + 1 := by rw [← size_toList, hl]; simp
    have hlt : l.length < t.size := by omega
    have hby : ((t[l.length]'hlt).toNat : Int) = 48 + (z.natAbs % 10 : Nat) := by
      have h1 := byte_at t l.length hlt (by rw [size_toList]; exact hlt)
      rw [← h1]
      have h2 : t.data.toList[l.length]'(by rw [size_toList]; exact hlt) = UInt8.ofNat (48 + z.natAbs % 10) := by
        simp only [hl]
        rw [List.getElem_append_right (Nat.le_refl _)]
        simp
      rw [h2, Num.ofNat_dig _ (Nat.mod_lt _ (by decide))]
      omega
    obtain ⟨d, hd⟩ : ∃ d : Int, d = (z.natAbs % 10 : Nat) := ⟨_, rfl⟩
    rw [← hd] at hby
    have hd0 : 0 ≤ d := by omega
    have hd9 : d ≤ 9 := by have := Nat.mod_lt z.natAbs (show 0 < 10 by decide); omega
    have hw1 : IntKind.i64.wrap ((t.size : Int) - 1) = (l.length : Int) := by rw [IntWalk.i64_in _ (by omega)]; omega
    have hl0 : (0 : Int) ≤ (l.length : Int) := by omega
    have hl1 : (l.length : Int) < t.size := by omega
    have HP := Lib.hid (show d % 2 = z % 2 by omega)
    have HH := Lib.hid hby
    have HW := Lib.hid (show IntKind.u8.wrap (48 + d - 48) = d by rw [show 48 + d - 48 = d by omega]; exact IntWalk.u8_in _ (by omega))
    have HX := Lib.hid hls
    clear h0 hz ht hl hd hls hby
    go_enter Tryz.func163, Tryz.ntmps163
    go_wp2_with fail
    refine (HC.out w).mono ?_
    rintro _ _ ⟨rfl, rfl⟩
    rw [← HT.out]
    have hby := HH.out
    have hw8 := HW.out
    go_wp2_with fail
    go_ret
    exact ⟨by show Ending.returned (.bool (d % 2 == 0)) = _; rw [HP.out]; rfl, rfl⟩

/-! ### digits -/
/-! ### divided -/
end Go.Proofs.YthhihdihkddakaaGreatDoor

/- The reference implementation of layer 3: RoundTo, Round, Scale, Format: the walks. -/
namespace Go.Proofs.YthhihdihkddakaaGreatDoor
open Go.RowKit Fra

theorem round_ways {m q r d z c cn : Int} (hr : r ≠ 0) (h1 : 1 ≤ m) (h6 : m ≤ 6) (hc : cmp3 (2 * r) d = c) (hcn : cn < 0 ↔ q < 0) (hz : rndR m q r d = z) :
    (m = 1 ∧ (0 < c) ∧ q + 1 = z) ∨ (m = 1 ∧ (c = 0 ∧ q % 2 = 1) ∧ q + 1 = z) ∨ (m = 1 ∧ (c = 0 ∧ q % 2 = 0) ∧ q = z) ∨ (m = 1 ∧ (c < 0) ∧ q = z) ∨ (m = 2 ∧ (0 < c) ∧ q + 1 = z) ∨ (m = 2 ∧ (c = 0 ∧ ¬ cn < 0) ∧ q + 1 = z) ∨ (m = 2 ∧ (c = 0 ∧ cn < 0) ∧ q = z) ∨ (m = 2 ∧ (c < 0) ∧ q = z) ∨ (m = 3 ∧ (cn < 0) ∧ q + 1 = z) ∨ (m = 3 ∧ (¬ cn < 0) ∧ q = z) ∨ (m = 4 ∧ (¬ cn < 0) ∧ q + 1 = z) ∨ (m = 4 ∧ (cn < 0) ∧ q = z) ∨ (m = 5 ∧ (True) ∧ q = z) ∨ (m = 6 ∧ (True) ∧ q + 1 = z) := by
  rw [rndR_up, if_neg hr, hc] at hz
  clear hr hc
  have hw : m = 1 ∨ m = 2 ∨ m = 3 ∨ m = 4 ∨ m = 5 ∨ m = 6 := by omega
  clear h1 h6
  rcases hw with rfl | rfl | rfl | rfl | rfl | rfl
  · rw [show upB 1 q c = decide (0 < c ∨ (c = 0 ∧ q % 2 = 1)) from decide_eq_decide.2 (by omega)] at hz
    rcases (show (0 < c) ∨ (c = 0 ∧ q % 2 = 1) ∨ (c = 0 ∧ q % 2 = 0) ∨ (c < 0) by omega) with h | h | h | h
    · exact Or.inl ⟨rfl, h, by rw [if_pos (by rw [decide_eq_true_eq]; omega)] at hz; exact hz⟩
    · exact Or.inr (Or.inl ⟨rfl, h, by rw [if_pos (by rw [decide_eq_true_eq]; omega)] at hz; exact hz⟩)
    · exact Or.inr (Or.inr (Or.inl ⟨rfl, h, by rw [if_neg (by rw [decide_eq_true_eq]; omega)] at hz; exact hz⟩))
    · exact Or.inr (Or.inr (Or.inr (Or.inl ⟨rfl, h, by rw [if_neg (by rw [decide_eq_true_eq]; omega)] at hz; exact hz⟩)))
  · rw [show upB 2 q c = decide (0 < c ∨ (c = 0 ∧ 0 ≤ q)) from decide_eq_decide.2 (by omega)] at hz
    rcases (show (0 < c) ∨ (c = 0 ∧ ¬ cn < 0) ∨ (c = 0 ∧ cn < 0) ∨ (c < 0) by omega) with h | h | h | h
    · exact Or.inr (Or.inr (Or.inr (Or.inr (Or.inl ⟨rfl, h, by rw [if_pos (by rw [decide_eq_true_eq]; omega)] at hz; exact hz⟩))))
    · exact Or.inr (Or.inr (Or.inr (Or.inr (Or.inr (Or.inl ⟨rfl, h, by rw [if_pos (by rw [decide_eq_true_eq]; omega)] at hz; exact hz⟩)))))
    · exact Or.inr (Or.inr (Or.inr (Or.inr (Or.inr (Or.inr (Or.inl ⟨rfl, h, by rw [if_neg (by rw [decide_eq_true_eq]; omega)] at hz; exact hz⟩))))))
    · exact Or.inr (Or.inr (Or.inr (Or.inr (Or.inr (Or.inr (Or.inr (Or.inl ⟨rfl, h, by rw [if_neg (by rw [decide_eq_true_eq]; omega)] at hz; exact hz⟩)))))))
  · rw [show upB 3 q c = decide (q < 0) from decide_eq_decide.2 (by omega)] at hz
    rcases (show (cn < 0) ∨ (¬ cn < 0) by omega) with h | h
    · exact Or.inr (Or.inr (Or.inr (Or.inr (Or.inr (Or.inr (Or.inr (Or.inr (Or.inl ⟨rfl, h, by rw [if_pos (by rw [decide_eq_true_eq]; omega)] at hz; exact hz⟩))))))))
    · exact Or.inr (Or.inr (Or.inr (Or.inr (Or.inr (Or.inr (Or.inr (Or.inr (Or.inr (Or.inl ⟨rfl, h, by rw [if_neg (by rw [decide_eq_true_eq]; omega)] at hz; exact hz⟩)))))))))
  · rw [show upB 4 q c = decide (0 ≤ q) from decide_eq_decide.2 (by omega)] at hz
    rcases (show (¬ cn < 0) ∨ (cn < 0) by omega) with h | h
    · exact Or.inr (Or.inr (Or.inr (Or.inr (Or.inr (Or.inr (Or.inr (Or.inr (Or.inr (Or.inr (Or.inl ⟨rfl, h, by rw [if_pos (by rw [decide_eq_true_eq]; omega)] at hz; exact hz⟩))))))))))
    · exact Or.inr (Or.inr (Or.inr (Or.inr (Or.inr (Or.inr (Or.inr (Or.inr (Or.inr (Or.inr (Or.inr (Or.inl ⟨rfl, h, by rw [if_neg (by rw [decide_eq_true_eq]; omega)] at hz; exact hz⟩)))))))))))
  · exact Or.inr (Or.inr (Or.inr (Or.inr (Or.inr (Or.inr (Or.inr (Or.inr (Or.inr (Or.inr (Or.inr (Or.inr (Or.inl ⟨rfl, trivial, by simpa [upB] using hz⟩))))))))))))
  · exact Or.inr (Or.inr (Or.inr (Or.inr (Or.inr (Or.inr (Or.inr (Or.inr (Or.inr (Or.inr (Or.inr (Or.inr (Or.inr (⟨rfl, trivial, by simpa [upB] using hz⟩)))))))))))))

set_option maxRecDepth 100000 in
set_option maxHeartbeats 16000000 in
theorem kRoundTo_e {fn fd : ByteArray} {m z : Int} (hn : fn.size ≤ 300) (hd : fd.size ≤ 300) (h0 : rest (raw fn fd) = 0) (hz : rnd m (raw fn fd) = z) : Ret 127 #[.agg #[.string fn, .string fd], .int .i64 m] (.string (cS z)) := by
  intro w hG
  obtain ⟨x, hx⟩ : ∃ x, raw fn fd = x := ⟨_, rfl⟩
  have hxp : 0 < x.2 := by rw [← hx]; exact raw_pos _ _
  have hcx : CapP 300 x := by rw [← hx]; exact CapP.of_raw (by decide) hn hd
  obtain ⟨q, hq⟩ : ∃ q, Int.fdiv x.1 x.2 = q := ⟨_, rfl⟩
  have hcq : Cap 301 q := by rw [← hq]; exact Cap.fdiv' hcx.1 hxp
  have hqs : (cS q).size ≤ 302 := cS_size hcq
  have hrq : raw (cS q) ⟨#[]⟩ = (q, 1) := by unfold raw; rw [vS_cS, vS_nil]; rfl
  obtain ⟨D, hD⟩ : ∃ D, addP x (negP (q, 1)) = D := ⟨_, rfl⟩
  have hDp : 0 < D.2 := by rw [← hD]; exact addP_pos hxp (negP_pos (x := (q, 1)) Int.one_pos)
  have hDs : (cS D.1).size ≤ 400 ∧ (cD D.2).size ≤ 400 := by
    have h1 : Same D (rest x, x.2) := by rw [← hD, ← hq]; exact rest_same
    have h2 := rest_bounds hxp
    have h3 : D = low (rest x, x.2) := by
      have h4 : Low D := by rw [← hD]; exact Low.of_addP hxp (negP_pos (x := (q, 1)) Int.one_pos)
      rw [← h4.eq]
      exact low_eq hDp hxp h1
    have h5 : CapP 300 (low (rest x, x.2)) := CapP.low ⟨by have := hcx.2; unfold Cap at *; omega, hcx.2⟩ hxp
    rw [h3]
    have h6 := cS_size h5.1
    have h7 := cD_size h5.2
    omega
  have HFL := Lib.hid (show Ret 52 #[.agg #[.string fn, .string fd]] (.string (cS q)) from fun W hW => by have := qFloor_any fn fd W hW (by omega) (by omega); rwa [hx, hq] at this)
  have HOQ := Lib.hid (show Ret 54 #[.string (cS q)] (.agg #[.string (cS q), .string ⟨#[]⟩]) from fun W _ => qOf_any W (by omega) (vS_cS q))
  have HSU := Lib.hid (show Ret 53 #[.agg #[.string fn, .string fd], .agg #[.string (cS q), .string ⟨#[]⟩]] (.agg #[.string (cS D.1), .string (cD D.2)]) from fun W hW => by
    have h := qSub_any fn fd (cS q) ⟨#[]⟩ W hW (by omega) (by omega) (by omega) (by decide)
    rw [hx, hrq, hD] at h
    exact h)
  have HOZ := Lib.hid (show Ret 54 #[.string ⟨#[]⟩] (.agg #[.string ⟨#[]⟩, .string ⟨#[]⟩]) from fun W _ => by
    have h := qOf_any (a := ⟨#[]⟩) (x := 0) W (by decide) vS_nil
    rwa [cS_zero] at h)
  have hrD : raw (cS D.1) (cD D.2) = D := raw_can hDp
  have e0 : cmpP D (0, 1) = cmp3 (rest x) 0 := by rw [← hD, ← hq]; exact rest_cmp0 hxp
  have HC0 := Lib.hid (show Ret 58 #[.agg #[.string (cS D.1), .string (cD D.2)], .agg #[.string ⟨#[]⟩, .string ⟨#[]⟩]] (.int .i64 (cmp3 (rest x) 0)) from fun W hW => by
    have h := qCompare_any (cS D.1) (cD D.2) ⟨#[]⟩ ⟨#[]⟩ W hW hDs.1 hDs.2 (by decide) (by decide)
    rw [hrD, raw_nil, e0] at h
    exact h)
  rw [hx] at h0 hz
  have HZ := Lib.hid (show cmp3 (rest x) 0 = 0 by rw [h0]; rfl)
  have hqz : q = z := by rw [← hz, ← hq]; unfold rnd rndR; rw [if_pos h0]
  subst hqz
  clear hn hd hx hxp hcx hq hcq hqs hrq hD hDp hDs hrD h0 hz
  obtain ⟨W0, hW0⟩ : ∃ W0, W0 = w.alloc (.cells #[.string fn, .string fd] 36) := ⟨_, rfl⟩
  have hS : StL w W0 [(w.heap.size, fn, fd)] := by rw [hW0]; exact StL.one hG _ _
  go_enter Tryz.func127, Tryz.ntmps127
  go_upto_region 1 with fail
  rw [← hW0]
  clear hW0
  obtain ⟨fp0, _⟩ := hS.box
  obtain ⟨fx0, fy0, _, _⟩ := fp0.cells
  go_wp2_with fail
  clear fp0 fx0 fy0
  refine Calls.mono (Ret.call HFL.out _ hS.g) ?_
  rintro _ w1 ⟨rfl, hB⟩
  replace hS := hS.next hB
  clear hB
  obtain ⟨fp0, _⟩ := hS.box
  obtain ⟨fx0, fy0, _, _⟩ := fp0.cells
  go_upto_region 2 with fail
  clear fp0 fx0 fy0
  obtain ⟨fp0, _⟩ := hS.box
  obtain ⟨fx0, fy0, _, _⟩ := fp0.cells
  try go_upto_region 2 with fail
  have HS := Lib.hid hS
  clear hS
  have hne0 : w1.heap.size ≠ w.heap.size := World.new_ne w1 _ fx0
  have hle0_0 : w.heap.size < w1.heap.size := fp0.lt
  go_cut [6] (fun s6 wx => ∃ b1_0 : Nat, s6 = .pointer (some ⟨b1_0, 0, none⟩) ∧ StL w wx [(b1_0, (cS D.1), (cD D.2)), (w.heap.size, fn, fd)])
  case first =>
    go_region_held3 (fun w' => w'.cell? ⟨w.heap.size, 0, none⟩ = some (.string fn) ∧ w'.cell? ⟨w.heap.size, 1, none⟩ = some (.string fd))
      (go_keep)
      (first
    | (go_at_call 54;
         (with_reducible refine Calls.mono (Ret.call HOQ.out _ (by first | exact HS.out.g | exact HS.out.drew.g | exact (HS.out.drewN _).g | exact (HS.out.other _).g | exact (HS.out.drew.other _).g | exact (HS.out.other _).drew.g | exact ((HS.out.other _).other _).g | exact ((HS.out.drew.other _).other _).g | exact ((HS.out.other _).other _).drew.g | exact ((HS.out.drew.other _).drew.other _).g | exact ((HS.out.other _).drew.other _).g)) ?_);
         (rintro e X1_1 ⟨rfl, hB1⟩);
         (first
           | ((have HS2 : StL w X1_1 ([(w.heap.size, fn, fd)]) := (by first | exact HS.out.next hB1 | exact HS.out.next1 hB1 | exact HS.out.nextD hB1 | exact (HS.out.alloc _ _).next hB1 | exact (HS.out.drew.alloc _ _).next hB1 | exact (HS.out.alloc _ _).drew.next hB1 | exact (HS.out.alloc2 _ _ _ _).next hB1 | exact (HS.out.drew.alloc2 _ _ _ _).next hB1 | exact (HS.out.alloc2 _ _ _ _).drew.next hB1)); (replace HS := Lib.hid HS2); (clear HS2); (obtain ⟨fp0, _⟩ := HS.out.box); (obtain ⟨fx0, fy0, _, _⟩ := fp0.cells); (have hle0_1 : w.heap.size < X1_1.heap.size := fp0.lt))
           | ((have HS2 : StL w X1_1 ((w1.heap.size, ⟨#[]⟩, ⟨#[]⟩) :: [(w.heap.size, fn, fd)]) := (by first | exact HS.out.next hB1 | exact HS.out.next1 hB1 | exact HS.out.nextD hB1 | exact (HS.out.alloc _ _).next hB1 | exact (HS.out.drew.alloc _ _).next hB1 | exact (HS.out.alloc _ _).drew.next hB1 | exact (HS.out.alloc2 _ _ _ _).next hB1 | exact (HS.out.drew.alloc2 _ _ _ _).next hB1 | exact (HS.out.alloc2 _ _ _ _).drew.next hB1)); (replace HS := Lib.hid HS2); (clear HS2); (obtain ⟨pn0, fp0, _⟩ := HS.out.box); (obtain ⟨nx0, ny0, nz0, nw0⟩ := pn0.cells); (have hnp0 : X1_1.heap.size ≠ w1.heap.size := World.new_ne _ _ nx0); (have hnq0 : w1.heap.size < X1_1.heap.size := pn0.lt); (obtain ⟨fx0, fy0, _, _⟩ := fp0.cells); (have hle0_1 : w.heap.size < X1_1.heap.size := fp0.lt); (have hnr0_0 : w1.heap.size ≠ w.heap.size := (by omega))));
         (clear hB1);
         (have hne0 : X1_1.heap.size ≠ w.heap.size := World.new_ne X1_1 _ fx0))
    | (go_at_call 53;
         (with_reducible refine Calls.mono (Ret.call HSU.out _ (by first | exact HS.out.g | exact HS.out.drew.g | exact (HS.out.drewN _).g | exact (HS.out.other _).g | exact (HS.out.drew.other _).g | exact (HS.out.other _).drew.g | exact ((HS.out.other _).other _).g | exact ((HS.out.drew.other _).other _).g | exact ((HS.out.other _).other _).drew.g | exact ((HS.out.drew.other _).drew.other _).g | exact ((HS.out.other _).drew.other _).g)) ?_);
         (rintro e X1_2 ⟨rfl, hB1⟩);
         (first
           | ((have HS2 : StL w X1_2 ([(w.heap.size, fn, fd)]) := (by first | exact HS.out.next hB1 | exact HS.out.next1 hB1 | exact HS.out.nextD hB1 | exact (HS.out.alloc _ _).next hB1 | exact (HS.out.drew.alloc _ _).next hB1 | exact (HS.out.alloc _ _).drew.next hB1 | exact (HS.out.alloc2 _ _ _ _).next hB1 | exact (HS.out.drew.alloc2 _ _ _ _).next hB1 | exact (HS.out.alloc2 _ _ _ _).drew.next hB1)); (replace HS := Lib.hid HS2); (clear HS2); (obtain ⟨fp0, _⟩ := HS.out.box); (obtain ⟨fx0, fy0, _, _⟩ := fp0.cells); (have hle0_2 : w.heap.size < X1_2.heap.size := fp0.lt))
           | ((have HS2 : StL w X1_2 ((X1_1.heap.size, ⟨#[]⟩, ⟨#[]⟩) :: [(w.heap.size, fn, fd)]) := (by first | exact HS.out.next hB1 | exact HS.out.next1 hB1 | exact HS.out.nextD hB1 | exact (HS.out.alloc _ _).next hB1 | exact (HS.out.drew.alloc _ _).next hB1 | exact (HS.out.alloc _ _).drew.next hB1 | exact (HS.out.alloc2 _ _ _ _).next hB1 | exact (HS.out.drew.alloc2 _ _ _ _).next hB1 | exact (HS.out.alloc2 _ _ _ _).drew.next hB1)); (replace HS := Lib.hid HS2); (clear HS2); (obtain ⟨pn0, fp0, _⟩ := HS.out.box); (obtain ⟨nx0, ny0, nz0, nw0⟩ := pn0.cells); (have hnp0 : X1_2.heap.size ≠ X1_1.heap.size := World.new_ne _ _ nx0); (have hnq0 : X1_1.heap.size < X1_2.heap.size := pn0.lt); (obtain ⟨fx0, fy0, _, _⟩ := fp0.cells); (have hle0_2 : w.heap.size < X1_2.heap.size := fp0.lt); (have hnr0_0 : X1_1.heap.size ≠ w.heap.size := (by omega)))
           | ((have HS2 : StL w X1_2 ((w1.heap.size, ⟨#[]⟩, ⟨#[]⟩) :: [(w.heap.size, fn, fd)]) := (by first | exact HS.out.next hB1 | exact HS.out.next1 hB1 | exact HS.out.nextD hB1 | exact (HS.out.alloc _ _).next hB1 | exact (HS.out.drew.alloc _ _).next hB1 | exact (HS.out.alloc _ _).drew.next hB1 | exact (HS.out.alloc2 _ _ _ _).next hB1 | exact (HS.out.drew.alloc2 _ _ _ _).next hB1 | exact (HS.out.alloc2 _ _ _ _).drew.next hB1)); (replace HS := Lib.hid HS2); (clear HS2); (obtain ⟨pn0, fp0, _⟩ := HS.out.box); (obtain ⟨nx0, ny0, nz0, nw0⟩ := pn0.cells); (have hnp0 : X1_2.heap.size ≠ w1.heap.size := World.new_ne _ _ nx0); (have hnq0 : w1.heap.size < X1_2.heap.size := pn0.lt); (obtain ⟨fx0, fy0, _, _⟩ := fp0.cells); (have hle0_2 : w.heap.size < X1_2.heap.size := fp0.lt); (have hnr0_0 : w1.heap.size ≠ w.heap.size := (by omega))));
         (clear hB1);
         (have hne0 : X1_2.heap.size ≠ w.heap.size := World.new_ne X1_2 _ fx0)))
    all_goals go_wp2_with fail
    all_goals go_meet
    all_goals refine ⟨_, rfl, ?_⟩
    all_goals first
      | with_reducible exact HS.out.alloc _ _
      | with_reducible exact StL.fill hG HS.out _ _
      | with_reducible exact (HS.out.alloc _ _).drew
      | with_reducible exact HS.out.drew.alloc _ _
      | with_reducible exact StL.fill hG HS.out.drew _ _
      | with_reducible exact (HS.out.drew.alloc _ _).drew
  clear HS hne0 hle0_0
  clear fp0 fx0 fy0
  obtain ⟨b1_0, rfl, hS⟩ := hcut
  obtain ⟨w2, hw⟩ : ∃ W, W = wc := ⟨_, rfl⟩
  rw [← hw] at hS
  rw [← hw]
  clear hw
  obtain ⟨fp0, fp1, _⟩ := hS.box
  obtain ⟨fx0, fy0, _, _⟩ := fp0.cells
  obtain ⟨fx1, fy1, _, _⟩ := fp1.cells
  go_wp2_with fail
  clear fp0 fx0 fy0 fp1 fx1 fy1
  refine Calls.mono (Ret.call HOZ.out _ hS.g) ?_
  rintro _ w3 ⟨rfl, hB⟩
  replace hS := hS.next hB
  clear hB
  go_upto_region 4 with fail
  obtain ⟨b4, hb4⟩ : ∃ b, b = w3.heap.size := ⟨_, rfl⟩
  obtain ⟨V4, hV4⟩ : ∃ V, V = w3.alloc (.cells #[.string ⟨#[]⟩, .string ⟨#[]⟩] 36) := ⟨_, rfl⟩
  have hT : StL w V4 [(b4, ⟨#[]⟩, ⟨#[]⟩), (b1_0, (cS D.1), (cD D.2)), (w.heap.size, fn, fd)] := by rw [hV4, hb4]; exact hS.alloc _ _
  rw [← hb4, ← hV4]
  clear hV4 hb4 hS
  have hS := hT
  clear hT
  obtain ⟨fp0, fp1, fp2, _⟩ := hS.box
  obtain ⟨fx0, fy0, _, _⟩ := fp0.cells
  obtain ⟨fx1, fy1, _, _⟩ := fp1.cells
  obtain ⟨fx2, fy2, _, _⟩ := fp2.cells
  go_wp2_with fail
  clear fp0 fx0 fy0 fp1 fx1 fy1 fp2 fx2 fy2
  refine Calls.mono (Ret.call HC0.out _ hS.g) ?_
  rintro _ w5 ⟨rfl, hB⟩
  replace hS := hS.next hB
  clear hB
  rw [HZ.out]
  obtain ⟨fp0, fp1, fp2, _⟩ := hS.box
  obtain ⟨fx0, fy0, _, _⟩ := fp0.cells
  obtain ⟨fx1, fy1, _, _⟩ := fp1.cells
  obtain ⟨fx2, fy2, _, _⟩ := fp2.cells
  go_wp2_with fail
  go_ret
  exact ⟨rfl, hS.below⟩
end Go.Proofs.YthhihdihkddakaaGreatDoor
