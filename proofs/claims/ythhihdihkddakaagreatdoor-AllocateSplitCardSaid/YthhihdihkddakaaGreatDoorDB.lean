/- The program's layer 3: arePlaces, tenTo, isOdd, goesUp: the walks. -/
import Derived.Test.YthhihdihkddakaaGreatDoorMD
import Derived.Test.YthhihdihkddakaaGreatDoorDA
namespace Go.Proofs.YthhihdihkddakaaGreatDoor
open Go.RowKit Fra

/-- can there be so many places? -/
def okP (n : Int) : Bool := decide (0 ≤ n ∧ n ≤ 12)
theorem okP_true {n : Int} (h1 : 0 ≤ n) (h2 : n ≤ 12) : okP n = true := decide_eq_true ⟨h1, h2⟩
theorem okP_false {n : Int} (h : n < 0 ∨ 12 < n) : okP n = false := decide_eq_false (fun k => by omega)
/-- the digits of a power of 10 -/
theorem cS_pow (k : Nat) : cS ((10 : Int) ^ k) = ⟨(49 :: List.replicate k 48).toArray⟩ := by
  unfold cS Num.canon
  have h : ¬ ((10 : Int) ^ k < 0) := by have := Num.pow10 k; omega
  rw [if_neg h, Int.natAbs_pow, show (10 : Int).natAbs = 10 from rfl, Num.digs_pow]
theorem one_zeros (k : Nat) : (ByteArray.mk #[49]) ++ (ByteArray.mk (List.replicate k (48 : UInt8)).toArray) = cS ((10 : Int) ^ k) := by
  rw [cS_pow]
  apply ByteArray.ext
  simp [ByteArray.data_append]

theorem two_fdiv (q : Int) (w : World) (hG : Ground w) {s : ByteArray} (hs : s.size ≤ 4294967295) (hq : vS s = q) :
    Calls Tryz.prog 66 #[.string s, .string ⟨#[50]⟩] w fun e w' => e = .returned (.tuple #[.string (cS (Int.fdiv q 2)), .string (cS (q % 2)), .int .i64 0]) ∧ Below w.heap.size w w' :=
  div_v w hG hs (by decide) hq (show vS ⟨#[50]⟩ = 2 by decide +kernel) (by decide) rfl (fmod_two q)
theorem cS_beq_nil (z : Int) : ((cS z).toList == []) = decide (z = 0) := by
  have e := eq_nil z
  rw [← e]
  cases (cS z).toList <;> rfl

set_option maxHeartbeats 1000000 in
theorem dOdd_any {s : ByteArray} {q : Int} (w : World) (hG : Ground w) (hs : s.size ≤ 4294967295) (hq : vS s = q) :
    Calls Tryz.prog 162 #[.string s] w fun e w' => e = .returned (.bool (decide (q % 2 = 1))) ∧ Below w.heap.size w w' := by
  have hd := two_fdiv q w hG hs hq
  have HB := Lib.hid hd
  clear hd
  by_cases h0 : q % 2 = 0
  · have HZ := Lib.hid (show cS (q % 2) = ⟨#[]⟩ by rw [h0, cS_zero])
    have HD := Lib.hid (show decide (q % 2 = 1) = false from decide_eq_false (by omega))
    clear h0
    go_enter Tryz.func162, Tryz.ntmps162
    go_wp2_with fail
    refine HB.out.mono ?_
    rintro _ w1 ⟨rfl, hB⟩
    rw [HZ.out]
    go_wp2_with fail
    go_ret
    exact ⟨by rw [HD.out]; rfl, hB⟩
  · have HZ := Lib.hid (show cS (q % 2) = ⟨#[49]⟩ by rw [show q % 2 = 1 by omega, cS_one])
    have HD := Lib.hid (show decide (q % 2 = 1) = true from decide_eq_true (by omega))
    clear h0
    go_enter Tryz.func162, Tryz.ntmps162
    go_wp2_with fail
    refine HB.out.mono ?_
    rintro _ w1 ⟨rfl, hB⟩
    rw [HZ.out]
    go_wp2_with fail
    go_ret
    exact ⟨by rw [HD.out]; rfl, hB⟩

end Go.Proofs.YthhihdihkddakaaGreatDoor

/- The program's layer 3: goesUp, Round, Scale: the walks. -/
namespace Go.Proofs.YthhihdihkddakaaGreatDoor
open Go.RowKit Fra

set_option maxHeartbeats 1000000 in
theorem dUp_1 {s : ByteArray} {q : Int} (h : Int) (w : World) (hG : Ground w) (hs : s.size ≤ 4294967295) (hq : vS s = q) :
    Calls Tryz.prog 124 #[.int .i64 1, .string s, .int .i64 h] w fun e w' => e = .returned (.tuple #[.bool (upB 1 q h), .int .i64 0]) ∧ Below w.heap.size w w' := by
  by_cases hs0 : q < 0
  · have HC := Lib.hid (cmp3_lt hs0)
    by_cases h1 : 0 < h
    · have HU := Lib.hid (show upB 1 q h = true by unfold upB; apply decide_eq_true; omega)
      clear hs0
      go_enter Tryz.func124, Tryz.ntmps124
      go_wp2_with fail
      refine (compare_v (x := q) (y := 0) (z := -1) w hs (by decide) hq vS_nil HC.out).mono ?_
      rintro _ w1 ⟨rfl, hB⟩
      go_wp2_with fail
      go_ret2
      exact ⟨by rw [HU.out]; first | rfl | (show Ending.returned (.tuple #[.bool (decide (0 < h)), .int .i64 0]) = _; rw [decide_eq_false (by omega)]) | (show Ending.returned (.tuple #[.bool (!decide (c < 0)), .int .i64 0]) = _; rw [decide_eq_false (by omega)]; rfl) | (show Ending.returned (.tuple #[.bool (decide (c < 0)), .int .i64 0]) = _; rw [decide_eq_false (by omega)]), hB⟩
    · by_cases h2 : h = 0
      · subst h2
        by_cases ho : q % 2 = 1
        · have HU := Lib.hid (show upB 1 q 0 = true by unfold upB; apply decide_eq_true; omega)
          have HO := Lib.hid (show decide (q % 2 = 1) = true from decide_eq_true (by omega))
          clear ho
          clear hs0
          go_enter Tryz.func124, Tryz.ntmps124
          go_wp2_with fail
          refine (compare_v (x := q) (y := 0) (z := -1) w hs (by decide) hq vS_nil HC.out).mono ?_
          rintro _ w1 ⟨rfl, hB⟩
          go_wp2_with fail
          refine (dOdd_any w1 (hG.below hB) hs hq).mono ?_
          rintro _ w2 ⟨rfl, hB2⟩
          rw [HO.out]
          replace hB := hB.trans (hB2.mono hB.size)
          clear hB2
          go_wp2_with fail
          go_ret2
          exact ⟨by rw [HU.out]; first | rfl | (show Ending.returned (.tuple #[.bool (decide (0 < h)), .int .i64 0]) = _; rw [decide_eq_false (by omega)]) | (show Ending.returned (.tuple #[.bool (!decide (c < 0)), .int .i64 0]) = _; rw [decide_eq_false (by omega)]; rfl) | (show Ending.returned (.tuple #[.bool (decide (c < 0)), .int .i64 0]) = _; rw [decide_eq_false (by omega)]), hB⟩
        · have HU := Lib.hid (show upB 1 q 0 = false by unfold upB; apply decide_eq_false; omega)
          have HO := Lib.hid (show decide (q % 2 = 1) = false from decide_eq_false (by omega))
          clear ho
          clear hs0
          go_enter Tryz.func124, Tryz.ntmps124
          go_wp2_with fail
          refine (compare_v (x := q) (y := 0) (z := -1) w hs (by decide) hq vS_nil HC.out).mono ?_
          rintro _ w1 ⟨rfl, hB⟩
          go_wp2_with fail
          refine (dOdd_any w1 (hG.below hB) hs hq).mono ?_
          rintro _ w2 ⟨rfl, hB2⟩
          rw [HO.out]
          replace hB := hB.trans (hB2.mono hB.size)
          clear hB2
          go_wp2_with fail
          go_ret2
          exact ⟨by rw [HU.out]; first | rfl | (show Ending.returned (.tuple #[.bool (decide (0 < h)), .int .i64 0]) = _; rw [decide_eq_false (by omega)]) | (show Ending.returned (.tuple #[.bool (!decide (c < 0)), .int .i64 0]) = _; rw [decide_eq_false (by omega)]; rfl) | (show Ending.returned (.tuple #[.bool (decide (c < 0)), .int .i64 0]) = _; rw [decide_eq_false (by omega)]), hB⟩
      · have h3 : (h == 0) = false := by simpa using h2
        have HU := Lib.hid (show upB 1 q h = false by unfold upB; apply decide_eq_false; omega)
        clear hs0 h2
        go_enter Tryz.func124, Tryz.ntmps124
        go_wp2_with fail
        refine (compare_v (x := q) (y := 0) (z := -1) w hs (by decide) hq vS_nil HC.out).mono ?_
        rintro _ w1 ⟨rfl, hB⟩
        go_wp2_with fail
        go_ret2
        exact ⟨by rw [HU.out]; first | rfl | (show Ending.returned (.tuple #[.bool (decide (0 < h)), .int .i64 0]) = _; rw [decide_eq_false (by omega)]) | (show Ending.returned (.tuple #[.bool (!decide (c < 0)), .int .i64 0]) = _; rw [decide_eq_false (by omega)]; rfl) | (show Ending.returned (.tuple #[.bool (decide (c < 0)), .int .i64 0]) = _; rw [decide_eq_false (by omega)]), hB⟩
  · obtain ⟨c, hc⟩ : ∃ c, cmp3 q 0 = c := ⟨_, rfl⟩
    have hcn : ¬ c < 0 := by rw [← hc]; unfold cmp3; split <;> (try split) <;> omega
    have HC := Lib.hid hc
    clear hc
    by_cases h1 : 0 < h
    · have HU := Lib.hid (show upB 1 q h = true by unfold upB; apply decide_eq_true; omega)
      clear hs0
      go_enter Tryz.func124, Tryz.ntmps124
      go_wp2_with fail
      refine (compare_v (x := q) (y := 0) (z := c) w hs (by decide) hq vS_nil HC.out).mono ?_
      rintro _ w1 ⟨rfl, hB⟩
      go_wp2_with fail
      go_ret2
      exact ⟨by rw [HU.out]; first | rfl | (show Ending.returned (.tuple #[.bool (decide (0 < h)), .int .i64 0]) = _; rw [decide_eq_false (by omega)]) | (show Ending.returned (.tuple #[.bool (!decide (c < 0)), .int .i64 0]) = _; rw [decide_eq_false (by omega)]; rfl) | (show Ending.returned (.tuple #[.bool (decide (c < 0)), .int .i64 0]) = _; rw [decide_eq_false (by omega)]), hB⟩
    · by_cases h2 : h = 0
      · subst h2
        by_cases ho : q % 2 = 1
        · have HU := Lib.hid (show upB 1 q 0 = true by unfold upB; apply decide_eq_true; omega)
          have HO := Lib.hid (show decide (q % 2 = 1) = true from decide_eq_true (by omega))
          clear ho
          clear hs0
          go_enter Tryz.func124, Tryz.ntmps124
          go_wp2_with fail
          refine (compare_v (x := q) (y := 0) (z := c) w hs (by decide) hq vS_nil HC.out).mono ?_
          rintro _ w1 ⟨rfl, hB⟩
          go_wp2_with fail
          refine (dOdd_any w1 (hG.below hB) hs hq).mono ?_
          rintro _ w2 ⟨rfl, hB2⟩
          rw [HO.out]
          replace hB := hB.trans (hB2.mono hB.size)
          clear hB2
          go_wp2_with fail
          go_ret2
          exact ⟨by rw [HU.out]; first | rfl | (show Ending.returned (.tuple #[.bool (decide (0 < h)), .int .i64 0]) = _; rw [decide_eq_false (by omega)]) | (show Ending.returned (.tuple #[.bool (!decide (c < 0)), .int .i64 0]) = _; rw [decide_eq_false (by omega)]; rfl) | (show Ending.returned (.tuple #[.bool (decide (c < 0)), .int .i64 0]) = _; rw [decide_eq_false (by omega)]), hB⟩
        · have HU := Lib.hid (show upB 1 q 0 = false by unfold upB; apply decide_eq_false; omega)
          have HO := Lib.hid (show decide (q % 2 = 1) = false from decide_eq_false (by omega))
          clear ho
          clear hs0
          go_enter Tryz.func124, Tryz.ntmps124
          go_wp2_with fail
          refine (compare_v (x := q) (y := 0) (z := c) w hs (by decide) hq vS_nil HC.out).mono ?_
          rintro _ w1 ⟨rfl, hB⟩
          go_wp2_with fail
          refine (dOdd_any w1 (hG.below hB) hs hq).mono ?_
          rintro _ w2 ⟨rfl, hB2⟩
          rw [HO.out]
          replace hB := hB.trans (hB2.mono hB.size)
          clear hB2
          go_wp2_with fail
          go_ret2
          exact ⟨by rw [HU.out]; first | rfl | (show Ending.returned (.tuple #[.bool (decide (0 < h)), .int .i64 0]) = _; rw [decide_eq_false (by omega)]) | (show Ending.returned (.tuple #[.bool (!decide (c < 0)), .int .i64 0]) = _; rw [decide_eq_false (by omega)]; rfl) | (show Ending.returned (.tuple #[.bool (decide (c < 0)), .int .i64 0]) = _; rw [decide_eq_false (by omega)]), hB⟩
      · have h3 : (h == 0) = false := by simpa using h2
        have HU := Lib.hid (show upB 1 q h = false by unfold upB; apply decide_eq_false; omega)
        clear hs0 h2
        go_enter Tryz.func124, Tryz.ntmps124
        go_wp2_with fail
        refine (compare_v (x := q) (y := 0) (z := c) w hs (by decide) hq vS_nil HC.out).mono ?_
        rintro _ w1 ⟨rfl, hB⟩
        go_wp2_with fail
        go_ret2
        exact ⟨by rw [HU.out]; first | rfl | (show Ending.returned (.tuple #[.bool (decide (0 < h)), .int .i64 0]) = _; rw [decide_eq_false (by omega)]) | (show Ending.returned (.tuple #[.bool (!decide (c < 0)), .int .i64 0]) = _; rw [decide_eq_false (by omega)]; rfl) | (show Ending.returned (.tuple #[.bool (decide (c < 0)), .int .i64 0]) = _; rw [decide_eq_false (by omega)]), hB⟩

set_option maxHeartbeats 1000000 in
theorem dUp_2 {s : ByteArray} {q : Int} (h : Int) (w : World) (hs : s.size ≤ 4294967295) (hq : vS s = q) :
    Calls Tryz.prog 124 #[.int .i64 2, .string s, .int .i64 h] w fun e w' => e = .returned (.tuple #[.bool (upB 2 q h), .int .i64 0]) ∧ Below w.heap.size w w' := by
  by_cases hs0 : q < 0
  · have HC := Lib.hid (cmp3_lt hs0)
    by_cases h1 : 0 < h
    · have HU := Lib.hid (show upB 2 q h = true by unfold upB; apply decide_eq_true; omega)
      clear hs0
      go_enter Tryz.func124, Tryz.ntmps124
      go_wp2_with fail
      refine (compare_v (x := q) (y := 0) (z := -1) w hs (by decide) hq vS_nil HC.out).mono ?_
      rintro _ w1 ⟨rfl, hB⟩
      go_wp2_with fail
      go_ret2
      exact ⟨by rw [HU.out]; first | rfl | (show Ending.returned (.tuple #[.bool (decide (0 < h)), .int .i64 0]) = _; rw [decide_eq_false (by omega)]) | (show Ending.returned (.tuple #[.bool (!decide (c < 0)), .int .i64 0]) = _; rw [decide_eq_false (by omega)]; rfl) | (show Ending.returned (.tuple #[.bool (decide (c < 0)), .int .i64 0]) = _; rw [decide_eq_false (by omega)]), hB⟩
    · by_cases h2 : h = 0
      · subst h2
        have HU := Lib.hid (show upB 2 q 0 = false by unfold upB; apply decide_eq_false; omega)
        clear hs0
        go_enter Tryz.func124, Tryz.ntmps124
        go_wp2_with fail
        refine (compare_v (x := q) (y := 0) (z := -1) w hs (by decide) hq vS_nil HC.out).mono ?_
        rintro _ w1 ⟨rfl, hB⟩
        go_wp2_with fail
        go_ret2
        exact ⟨by rw [HU.out]; first | rfl | (show Ending.returned (.tuple #[.bool (decide (0 < h)), .int .i64 0]) = _; rw [decide_eq_false (by omega)]) | (show Ending.returned (.tuple #[.bool (!decide (c < 0)), .int .i64 0]) = _; rw [decide_eq_false (by omega)]; rfl) | (show Ending.returned (.tuple #[.bool (decide (c < 0)), .int .i64 0]) = _; rw [decide_eq_false (by omega)]), hB⟩
      · have h3 : (h == 0) = false := by simpa using h2
        have HU := Lib.hid (show upB 2 q h = false by unfold upB; apply decide_eq_false; omega)
        clear hs0 h2
        go_enter Tryz.func124, Tryz.ntmps124
        go_wp2_with fail
        refine (compare_v (x := q) (y := 0) (z := -1) w hs (by decide) hq vS_nil HC.out).mono ?_
        rintro _ w1 ⟨rfl, hB⟩
        go_wp2_with fail
        go_ret2
        exact ⟨by rw [HU.out]; first | rfl | (show Ending.returned (.tuple #[.bool (decide (0 < h)), .int .i64 0]) = _; rw [decide_eq_false (by omega)]) | (show Ending.returned (.tuple #[.bool (!decide (c < 0)), .int .i64 0]) = _; rw [decide_eq_false (by omega)]; rfl) | (show Ending.returned (.tuple #[.bool (decide (c < 0)), .int .i64 0]) = _; rw [decide_eq_false (by omega)]), hB⟩
  · obtain ⟨c, hc⟩ : ∃ c, cmp3 q 0 = c := ⟨_, rfl⟩
    have hcn : ¬ c < 0 := by rw [← hc]; unfold cmp3; split <;> (try split) <;> omega
    have HC := Lib.hid hc
    clear hc
    by_cases h1 : 0 < h
    · have HU := Lib.hid (show upB 2 q h = true by unfold upB; apply decide_eq_true; omega)
      clear hs0
      go_enter Tryz.func124, Tryz.ntmps124
      go_wp2_with fail
      refine (compare_v (x := q) (y := 0) (z := c) w hs (by decide) hq vS_nil HC.out).mono ?_
      rintro _ w1 ⟨rfl, hB⟩
      go_wp2_with fail
      go_ret2
      exact ⟨by rw [HU.out]; first | rfl | (show Ending.returned (.tuple #[.bool (decide (0 < h)), .int .i64 0]) = _; rw [decide_eq_false (by omega)]) | (show Ending.returned (.tuple #[.bool (!decide (c < 0)), .int .i64 0]) = _; rw [decide_eq_false (by omega)]; rfl) | (show Ending.returned (.tuple #[.bool (decide (c < 0)), .int .i64 0]) = _; rw [decide_eq_false (by omega)]), hB⟩
    · by_cases h2 : h = 0
      · subst h2
        have HU := Lib.hid (show upB 2 q 0 = true by unfold upB; apply decide_eq_true; omega)
        clear hs0
        go_enter Tryz.func124, Tryz.ntmps124
        go_wp2_with fail
        refine (compare_v (x := q) (y := 0) (z := c) w hs (by decide) hq vS_nil HC.out).mono ?_
        rintro _ w1 ⟨rfl, hB⟩
        go_wp2_with fail
        go_ret2
        exact ⟨by rw [HU.out]; first | rfl | (show Ending.returned (.tuple #[.bool (decide (0 < h)), .int .i64 0]) = _; rw [decide_eq_false (by omega)]) | (show Ending.returned (.tuple #[.bool (!decide (c < 0)), .int .i64 0]) = _; rw [decide_eq_false (by omega)]; rfl) | (show Ending.returned (.tuple #[.bool (decide (c < 0)), .int .i64 0]) = _; rw [decide_eq_false (by omega)]), hB⟩
      · have h3 : (h == 0) = false := by simpa using h2
        have HU := Lib.hid (show upB 2 q h = false by unfold upB; apply decide_eq_false; omega)
        clear hs0 h2
        go_enter Tryz.func124, Tryz.ntmps124
        go_wp2_with fail
        refine (compare_v (x := q) (y := 0) (z := c) w hs (by decide) hq vS_nil HC.out).mono ?_
        rintro _ w1 ⟨rfl, hB⟩
        go_wp2_with fail
        go_ret2
        exact ⟨by rw [HU.out]; first | rfl | (show Ending.returned (.tuple #[.bool (decide (0 < h)), .int .i64 0]) = _; rw [decide_eq_false (by omega)]) | (show Ending.returned (.tuple #[.bool (!decide (c < 0)), .int .i64 0]) = _; rw [decide_eq_false (by omega)]; rfl) | (show Ending.returned (.tuple #[.bool (decide (c < 0)), .int .i64 0]) = _; rw [decide_eq_false (by omega)]), hB⟩

set_option maxHeartbeats 1000000 in
theorem dUp_3 {s : ByteArray} {q : Int} (h : Int) (w : World) (hs : s.size ≤ 4294967295) (hq : vS s = q) :
    Calls Tryz.prog 124 #[.int .i64 3, .string s, .int .i64 h] w fun e w' => e = .returned (.tuple #[.bool (upB 3 q h), .int .i64 0]) ∧ Below w.heap.size w w' := by
  by_cases hs0 : q < 0
  · have HC := Lib.hid (cmp3_lt hs0)
    have HU := Lib.hid (show upB 3 q h = true by unfold upB; apply decide_eq_true; omega)
    clear hs0
    go_enter Tryz.func124, Tryz.ntmps124
    go_wp2_with fail
    refine (compare_v (x := q) (y := 0) (z := -1) w hs (by decide) hq vS_nil HC.out).mono ?_
    rintro _ w1 ⟨rfl, hB⟩
    go_wp2_with fail
    go_ret2
    exact ⟨by rw [HU.out]; first | rfl | (show Ending.returned (.tuple #[.bool (decide (0 < h)), .int .i64 0]) = _; rw [decide_eq_false (by omega)]) | (show Ending.returned (.tuple #[.bool (!decide (c < 0)), .int .i64 0]) = _; rw [decide_eq_false (by omega)]; rfl) | (show Ending.returned (.tuple #[.bool (decide (c < 0)), .int .i64 0]) = _; rw [decide_eq_false (by omega)]), hB⟩
  · obtain ⟨c, hc⟩ : ∃ c, cmp3 q 0 = c := ⟨_, rfl⟩
    have hcn : ¬ c < 0 := by rw [← hc]; unfold cmp3; split <;> (try split) <;> omega
    have HC := Lib.hid hc
    clear hc
    have HU := Lib.hid (show upB 3 q h = false by unfold upB; apply decide_eq_false; omega)
    clear hs0
    go_enter Tryz.func124, Tryz.ntmps124
    go_wp2_with fail
    refine (compare_v (x := q) (y := 0) (z := c) w hs (by decide) hq vS_nil HC.out).mono ?_
    rintro _ w1 ⟨rfl, hB⟩
    go_wp2_with fail
    go_ret2
    exact ⟨by rw [HU.out]; first | rfl | (show Ending.returned (.tuple #[.bool (decide (0 < h)), .int .i64 0]) = _; rw [decide_eq_false (by omega)]) | (show Ending.returned (.tuple #[.bool (!decide (c < 0)), .int .i64 0]) = _; rw [decide_eq_false (by omega)]; rfl) | (show Ending.returned (.tuple #[.bool (decide (c < 0)), .int .i64 0]) = _; rw [decide_eq_false (by omega)]), hB⟩

set_option maxHeartbeats 1000000 in
theorem dUp_4 {s : ByteArray} {q : Int} (h : Int) (w : World) (hs : s.size ≤ 4294967295) (hq : vS s = q) :
    Calls Tryz.prog 124 #[.int .i64 4, .string s, .int .i64 h] w fun e w' => e = .returned (.tuple #[.bool (upB 4 q h), .int .i64 0]) ∧ Below w.heap.size w w' := by
  by_cases hs0 : q < 0
  · have HC := Lib.hid (cmp3_lt hs0)
    have HU := Lib.hid (show upB 4 q h = false by unfold upB; apply decide_eq_false; omega)
    clear hs0
    go_enter Tryz.func124, Tryz.ntmps124
    go_wp2_with fail
    refine (compare_v (x := q) (y := 0) (z := -1) w hs (by decide) hq vS_nil HC.out).mono ?_
    rintro _ w1 ⟨rfl, hB⟩
    go_wp2_with fail
    go_ret2
    exact ⟨by rw [HU.out]; first | rfl | (show Ending.returned (.tuple #[.bool (decide (0 < h)), .int .i64 0]) = _; rw [decide_eq_false (by omega)]) | (show Ending.returned (.tuple #[.bool (!decide (c < 0)), .int .i64 0]) = _; rw [decide_eq_false (by omega)]; rfl) | (show Ending.returned (.tuple #[.bool (decide (c < 0)), .int .i64 0]) = _; rw [decide_eq_false (by omega)]), hB⟩
  · obtain ⟨c, hc⟩ : ∃ c, cmp3 q 0 = c := ⟨_, rfl⟩
    have hcn : ¬ c < 0 := by rw [← hc]; unfold cmp3; split <;> (try split) <;> omega
    have HC := Lib.hid hc
    clear hc
    have HU := Lib.hid (show upB 4 q h = true by unfold upB; apply decide_eq_true; omega)
    clear hs0
    go_enter Tryz.func124, Tryz.ntmps124
    go_wp2_with fail
    refine (compare_v (x := q) (y := 0) (z := c) w hs (by decide) hq vS_nil HC.out).mono ?_
    rintro _ w1 ⟨rfl, hB⟩
    go_wp2_with fail
    go_ret2
    exact ⟨by rw [HU.out]; first | rfl | (show Ending.returned (.tuple #[.bool (decide (0 < h)), .int .i64 0]) = _; rw [decide_eq_false (by omega)]) | (show Ending.returned (.tuple #[.bool (!decide (c < 0)), .int .i64 0]) = _; rw [decide_eq_false (by omega)]; rfl) | (show Ending.returned (.tuple #[.bool (decide (c < 0)), .int .i64 0]) = _; rw [decide_eq_false (by omega)]), hB⟩

set_option maxHeartbeats 1000000 in
theorem dUp_5 {s : ByteArray} {q : Int} (h : Int) (w : World) (hs : s.size ≤ 4294967295) (hq : vS s = q) :
    Calls Tryz.prog 124 #[.int .i64 5, .string s, .int .i64 h] w fun e w' => e = .returned (.tuple #[.bool (upB 5 q h), .int .i64 0]) ∧ Below w.heap.size w w' := by
  by_cases hs0 : q < 0
  · have HC := Lib.hid (cmp3_lt hs0)
    have HU := Lib.hid (show upB 5 q h = false by unfold upB; apply decide_eq_false; omega)
    clear hs0
    go_enter Tryz.func124, Tryz.ntmps124
    go_wp2_with fail
    refine (compare_v (x := q) (y := 0) (z := -1) w hs (by decide) hq vS_nil HC.out).mono ?_
    rintro _ w1 ⟨rfl, hB⟩
    go_wp2_with fail
    go_ret2
    exact ⟨by rw [HU.out]; first | rfl | (show Ending.returned (.tuple #[.bool (decide (0 < h)), .int .i64 0]) = _; rw [decide_eq_false (by omega)]) | (show Ending.returned (.tuple #[.bool (!decide (c < 0)), .int .i64 0]) = _; rw [decide_eq_false (by omega)]; rfl) | (show Ending.returned (.tuple #[.bool (decide (c < 0)), .int .i64 0]) = _; rw [decide_eq_false (by omega)]), hB⟩
  · obtain ⟨c, hc⟩ : ∃ c, cmp3 q 0 = c := ⟨_, rfl⟩
    have hcn : ¬ c < 0 := by rw [← hc]; unfold cmp3; split <;> (try split) <;> omega
    have HC := Lib.hid hc
    clear hc
    have HU := Lib.hid (show upB 5 q h = false by unfold upB; apply decide_eq_false; omega)
    clear hs0
    go_enter Tryz.func124, Tryz.ntmps124
    go_wp2_with fail
    refine (compare_v (x := q) (y := 0) (z := c) w hs (by decide) hq vS_nil HC.out).mono ?_
    rintro _ w1 ⟨rfl, hB⟩
    go_wp2_with fail
    go_ret2
    exact ⟨by rw [HU.out]; first | rfl | (show Ending.returned (.tuple #[.bool (decide (0 < h)), .int .i64 0]) = _; rw [decide_eq_false (by omega)]) | (show Ending.returned (.tuple #[.bool (!decide (c < 0)), .int .i64 0]) = _; rw [decide_eq_false (by omega)]; rfl) | (show Ending.returned (.tuple #[.bool (decide (c < 0)), .int .i64 0]) = _; rw [decide_eq_false (by omega)]), hB⟩

set_option maxHeartbeats 1000000 in
theorem dUp_6 {s : ByteArray} {q : Int} (h : Int) (w : World) (hs : s.size ≤ 4294967295) (hq : vS s = q) :
    Calls Tryz.prog 124 #[.int .i64 6, .string s, .int .i64 h] w fun e w' => e = .returned (.tuple #[.bool (upB 6 q h), .int .i64 0]) ∧ Below w.heap.size w w' := by
  by_cases hs0 : q < 0
  · have HC := Lib.hid (cmp3_lt hs0)
    have HU := Lib.hid (show upB 6 q h = true by unfold upB; apply decide_eq_true; omega)
    clear hs0
    go_enter Tryz.func124, Tryz.ntmps124
    go_wp2_with fail
    refine (compare_v (x := q) (y := 0) (z := -1) w hs (by decide) hq vS_nil HC.out).mono ?_
    rintro _ w1 ⟨rfl, hB⟩
    go_wp2_with fail
    go_ret2
    exact ⟨by rw [HU.out]; first | rfl | (show Ending.returned (.tuple #[.bool (decide (0 < h)), .int .i64 0]) = _; rw [decide_eq_false (by omega)]) | (show Ending.returned (.tuple #[.bool (!decide (c < 0)), .int .i64 0]) = _; rw [decide_eq_false (by omega)]; rfl) | (show Ending.returned (.tuple #[.bool (decide (c < 0)), .int .i64 0]) = _; rw [decide_eq_false (by omega)]), hB⟩
  · obtain ⟨c, hc⟩ : ∃ c, cmp3 q 0 = c := ⟨_, rfl⟩
    have hcn : ¬ c < 0 := by rw [← hc]; unfold cmp3; split <;> (try split) <;> omega
    have HC := Lib.hid hc
    clear hc
    have HU := Lib.hid (show upB 6 q h = true by unfold upB; apply decide_eq_true; omega)
    clear hs0
    go_enter Tryz.func124, Tryz.ntmps124
    go_wp2_with fail
    refine (compare_v (x := q) (y := 0) (z := c) w hs (by decide) hq vS_nil HC.out).mono ?_
    rintro _ w1 ⟨rfl, hB⟩
    go_wp2_with fail
    go_ret2
    exact ⟨by rw [HU.out]; first | rfl | (show Ending.returned (.tuple #[.bool (decide (0 < h)), .int .i64 0]) = _; rw [decide_eq_false (by omega)]) | (show Ending.returned (.tuple #[.bool (!decide (c < 0)), .int .i64 0]) = _; rw [decide_eq_false (by omega)]; rfl) | (show Ending.returned (.tuple #[.bool (decide (c < 0)), .int .i64 0]) = _; rw [decide_eq_false (by omega)]), hB⟩

theorem dUp_any {s : ByteArray} {q m : Int} (h : Int) (w : World) (hG : Ground w) (hs : s.size ≤ 4294967295) (hq : vS s = q) (h1 : 1 ≤ m) (h6 : m ≤ 6) :
    Calls Tryz.prog 124 #[.int .i64 m, .string s, .int .i64 h] w fun e w' => e = .returned (.tuple #[.bool (upB m q h), .int .i64 0]) ∧ Below w.heap.size w w' := by
  have : m = 1 ∨ m = 2 ∨ m = 3 ∨ m = 4 ∨ m = 5 ∨ m = 6 := by omega
  rcases this with rfl | rfl | rfl | rfl | rfl | rfl
  · exact dUp_1 h w hG hs hq
  · exact dUp_2 h w hs hq
  · exact dUp_3 h w hs hq
  · exact dUp_4 h w hs hq
  · exact dUp_5 h w hs hq
  · exact dUp_6 h w hs hq

set_option maxHeartbeats 1000000 in
theorem dUp_none {s : ByteArray} (m h : Int) (w : World) (hs : s.size ≤ 4294967295) (hm : m < 1 ∨ 6 < m) :
    Calls Tryz.prog 124 #[.int .i64 m, .string s, .int .i64 h] w fun e w' => e = .returned (.tuple #[.bool false, .int .i64 7]) ∧ Below w.heap.size w w' := by
  have m1 : (m == 1) = false := by simp; omega
  have m2 : (m == 2) = false := by simp; omega
  have m3 : (m == 3) = false := by simp; omega
  have m4 : (m == 4) = false := by simp; omega
  have m5 : (m == 5) = false := by simp; omega
  have m6 : (m == 6) = false := by simp; omega
  clear hm
  go_enter Tryz.func124, Tryz.ntmps124
  go_wp2_with fail
  refine (compare_v (x := vS s) (y := 0) (z := cmp3 (vS s) 0) w hs (by decide) rfl vS_nil rfl).mono ?_
  rintro _ w1 ⟨rfl, hB⟩
  obtain ⟨c, hc⟩ : ∃ c, cmp3 (vS s) 0 = c := ⟨_, rfl⟩
  rw [hc]
  clear hc
  go_wp2_with fail
  go_ret2
  exact ⟨rfl, hB⟩

/-! ### Round -/
theorem fmod_low (x : Int × Int) : Int.fmod x.1 x.2 = rest x := rest_fmod

/-- what Round asks for -/
structure RoundAt (n d : ByteArray) (x : Int × Int) (q r : Int) : Prop where
  val : Val n d x
  fq : Int.fdiv (low x).1 (low x).2 = q
  fr : Int.fmod (low x).1 (low x).2 = r
  s1 : (cS (low x).1).size ≤ 4294967295
  s2 : (cS (low x).2).size ≤ 4294967295
  s3 : (cS q).size ≤ 4294967295
  s4 : (cS r).size ≤ 4294967295
  s5 : (cS (r + r)).size ≤ 4294967295
  pos : (low x).2 ≠ 0
theorem Cap.fdiv' {k : Nat} {n d : Int} (h : Cap k n) (hd : 0 < d) : Cap (k + 1) (Int.fdiv n d) := by
  have hb := floor_bounds (n := n) hd
  unfold Cap at *
  rw [Nat.pow_succ]
  generalize Int.fdiv n d = q at *
  have h1 : q ≤ n.natAbs := by
    rcases Int.lt_or_le q 1 with h | h
    · omega
    · have := Int.mul_le_mul_of_nonneg_left (show (1 : Int) ≤ d by omega) (show 0 ≤ q by omega); omega
  have h2 : -(n.natAbs : Int) - 1 ≤ q := by
    rcases Int.lt_or_le q (-1) with h | h
    · have := Int.mul_le_mul_of_nonpos_left (show q + 1 ≤ 0 by omega) (show (1 : Int) ≤ d by omega); omega
    · omega
  omega
theorem RoundAt.of {n d : ByteArray} {x : Int × Int} (h : Val n d x) : RoundAt n d x (Int.fdiv (low x).1 (low x).2) (rest (low x)) := by
  have hx := h.pos
  have hc : CapP 100000 x := by rw [← h.1]; exact CapP.of_raw (by decide) (le_k h.2.1) (le_k h.2.2)
  have hl := CapP.low hc hx
  have hp := low_pos hx
  have hq := Cap.fdiv' hl.1 hp
  have hr : Cap 100000 (rest (low x)) := by
    obtain ⟨r1, r2⟩ := rest_bounds (x := low x) hp
    have h2 := hl.2
    unfold Cap at *
    omega
  refine ⟨h, rfl, rest_fmod, ?_, ?_, ?_, ?_, ?_, by omega⟩
  · have := cS_size hl.1; omega
  · have := cS_size hl.2; omega
  · have := cS_size hq; omega
  · have := cS_size hr; omega
  · have := cS_size (Cap.add hr hr); omega

set_option maxRecDepth 100000 in
set_option maxHeartbeats 2000000 in
theorem dRound_none {n d : ByteArray} {x : Int × Int} (m : Int) (w : World) (hG : Ground w) (h : Val n d x) (hm : m < 1 ∨ 6 < m) :
    Calls Tryz.prog 71 #[.agg #[.string n, .string d], .int .i64 m] w fun e w' => e = .returned (.tuple #[.string ⟨#[]⟩, .int .i64 7]) ∧ Below w.heap.size w w' := by
  have HA := Lib.hid (RoundAt.of h)
  obtain ⟨q, hq⟩ : ∃ q, Int.fdiv (low x).1 (low x).2 = q := ⟨_, rfl⟩
  obtain ⟨r, hr⟩ : ∃ r, rest (low x) = r := ⟨_, rfl⟩
  rw [hq, hr] at HA
  clear hq hr h
  obtain ⟨W0, hW0⟩ : ∃ W0, W0 = w.alloc (.cells #[.string n, .string d] 36) := ⟨_, rfl⟩
  have hB0 : Below w.heap.size w W0 := by rw [hW0]; exact (Below.refl _ _).alloc (Nat.le_refl _) _
  go_enter Tryz.func71, Tryz.ntmps71
  go_wp2_with fail
  rw [← hW0]
  clear hW0
  refine (fParts_v W0 (hG.below hB0) HA.out.val rfl).mono ?_
  rintro _ w1 ⟨rfl, hB⟩
  replace hB := hB0.trans (hB.mono hB0.size)
  clear hB0
  go_wp2_with fail
  refine (div_v w1 (hG.below hB) HA.out.s1 HA.out.s2 (vS_cS _) (vS_cS _) HA.out.pos HA.out.fq HA.out.fr).mono ?_
  rintro _ w2 ⟨rfl, hB2⟩
  replace hB := hB.trans (hB2.mono hB.size)
  clear hB2
  go_wp2_with fail
  refine (add_v (x := r) (y := r) w2 (hG.below hB) HA.out.s4 HA.out.s4 (vS_cS _) (vS_cS _) rfl).mono ?_
  rintro _ w3 ⟨rfl, hB2⟩
  replace hB := hB.trans (hB2.mono hB.size)
  clear hB2
  go_wp2_with fail
  refine (compare_v (x := r + r) (y := (low x).2) w3 HA.out.s5 HA.out.s2 (vS_cS _) (vS_cS _) rfl).mono ?_
  rintro _ w4 ⟨rfl, hB2⟩
  replace hB := hB.trans (hB2.mono hB.size)
  clear hB2
  go_wp2_with fail
  refine (dUp_none m _ w4 HA.out.s3 hm).mono ?_
  rintro _ w5 ⟨rfl, hB2⟩
  replace hB := hB.trans (hB2.mono hB.size)
  clear hB2 hm
  go_wp2_with fail
  go_ret2
  exact ⟨rfl, hB⟩

set_option maxRecDepth 100000 in
set_option maxHeartbeats 2000000 in
theorem dRound_v {n d : ByteArray} {x : Int × Int} {m z : Int} (w : World) (hG : Ground w) (h : Val n d x) (h1 : 1 ≤ m) (h6 : m ≤ 6) (hz : rnd m x = z) :
    Calls Tryz.prog 71 #[.agg #[.string n, .string d], .int .i64 m] w fun e w' => e = .returned (.tuple #[.string (cS z), .int .i64 0]) ∧ Below w.heap.size w w' := by
  have hxp := h.pos
  have HA := Lib.hid (RoundAt.of h)
  rw [← rnd_low hxp] at hz
  unfold rnd at hz
  obtain ⟨q, hq⟩ : ∃ q, Int.fdiv (low x).1 (low x).2 = q := ⟨_, rfl⟩
  obtain ⟨r, hr⟩ : ∃ r, rest (low x) = r := ⟨_, rfl⟩
  rw [hq, hr] at HA hz
  rw [rndR_up] at hz
  obtain ⟨c, hc⟩ : ∃ c, cmp3 (r + r) (low x).2 = c := ⟨_, rfl⟩
  rw [show 2 * r = r + r by omega, hc] at hz
  have HC := Lib.hid hc
  clear hq hr h hxp hc
  by_cases h0 : r = 0
  · have HZ := Lib.hid (show cS r = ⟨#[]⟩ by rw [h0, cS_zero])
    have HE := Lib.hid (show cS z = cS q by rw [← hz, if_pos h0])
    clear hz h0
    obtain ⟨W0, hW0⟩ : ∃ W0, W0 = w.alloc (.cells #[.string n, .string d] 36) := ⟨_, rfl⟩
    have hB0 : Below w.heap.size w W0 := by rw [hW0]; exact (Below.refl _ _).alloc (Nat.le_refl _) _
    go_enter Tryz.func71, Tryz.ntmps71
    go_wp2_with fail
    rw [← hW0]
    clear hW0
    refine (fParts_v W0 (hG.below hB0) HA.out.val rfl).mono ?_
    rintro _ w1 ⟨rfl, hB⟩
    replace hB := hB0.trans (hB.mono hB0.size)
    clear hB0
    go_wp2_with fail
    refine (div_v w1 (hG.below hB) HA.out.s1 HA.out.s2 (vS_cS _) (vS_cS _) HA.out.pos HA.out.fq HA.out.fr).mono ?_
    rintro _ w2 ⟨rfl, hB2⟩
    replace hB := hB.trans (hB2.mono hB.size)
    clear hB2
    go_wp2_with fail
    refine (add_v (x := r) (y := r) w2 (hG.below hB) HA.out.s4 HA.out.s4 (vS_cS _) (vS_cS _) rfl).mono ?_
    rintro _ w3 ⟨rfl, hB2⟩
    replace hB := hB.trans (hB2.mono hB.size)
    clear hB2
    go_wp2_with fail
    refine (compare_v (x := r + r) (y := (low x).2) w3 HA.out.s5 HA.out.s2 (vS_cS _) (vS_cS _) HC.out).mono ?_
    rintro _ w4 ⟨rfl, hB2⟩
    replace hB := hB.trans (hB2.mono hB.size)
    clear hB2
    go_wp2_with fail
    refine (dUp_any c w4 (hG.below hB) HA.out.s3 (vS_cS q) h1 h6).mono ?_
    rintro _ w5 ⟨rfl, hB2⟩
    replace hB := hB.trans (hB2.mono hB.size)
    clear hB2
    rw [HZ.out]
    go_wp2_with fail
    go_ret2
    exact ⟨by rw [HE.out]; rfl, hB⟩
  · rw [if_neg h0] at hz
    have hne : ((cS r).toList.isEmpty) = false := by rw [eq_nil]; exact decide_eq_false h0
    obtain ⟨sr, hsr⟩ : ∃ sr, sr = cS r := ⟨_, rfl⟩
    have HSR := Lib.hid hsr
    rw [← hsr] at hne
    clear h0 hsr
    cases hu : upB m q c
    · have HE := Lib.hid (show cS z = cS q by rw [← hz, hu]; rfl)
      have HU := Lib.hid hu
      clear hz hu
      obtain ⟨W0, hW0⟩ : ∃ W0, W0 = w.alloc (.cells #[.string n, .string d] 36) := ⟨_, rfl⟩
      have hB0 : Below w.heap.size w W0 := by rw [hW0]; exact (Below.refl _ _).alloc (Nat.le_refl _) _
      go_enter Tryz.func71, Tryz.ntmps71
      go_wp2_with fail
      rw [← hW0]
      clear hW0
      refine (fParts_v W0 (hG.below hB0) HA.out.val rfl).mono ?_
      rintro _ w1 ⟨rfl, hB⟩
      replace hB := hB0.trans (hB.mono hB0.size)
      clear hB0
      go_wp2_with fail
      refine (div_v w1 (hG.below hB) HA.out.s1 HA.out.s2 (vS_cS _) (vS_cS _) HA.out.pos HA.out.fq HA.out.fr).mono ?_
      rintro _ w2 ⟨rfl, hB2⟩
      replace hB := hB.trans (hB2.mono hB.size)
      clear hB2
      go_wp2_with fail
      refine (add_v (x := r) (y := r) w2 (hG.below hB) HA.out.s4 HA.out.s4 (vS_cS _) (vS_cS _) rfl).mono ?_
      rintro _ w3 ⟨rfl, hB2⟩
      replace hB := hB.trans (hB2.mono hB.size)
      clear hB2
      go_wp2_with fail
      refine (compare_v (x := r + r) (y := (low x).2) w3 HA.out.s5 HA.out.s2 (vS_cS _) (vS_cS _) HC.out).mono ?_
      rintro _ w4 ⟨rfl, hB2⟩
      replace hB := hB.trans (hB2.mono hB.size)
      clear hB2
      go_wp2_with fail
      refine (dUp_any c w4 (hG.below hB) HA.out.s3 (vS_cS q) h1 h6).mono ?_
      rintro _ w5 ⟨rfl, hB2⟩
      replace hB := hB.trans (hB2.mono hB.size)
      clear hB2
      rw [HU.out, ← HSR.out]
      go_wp2_with fail
      go_ret2
      exact ⟨by rw [HE.out]; rfl, hB⟩
    · have HE := Lib.hid (show q + 1 = z by rw [← hz, hu]; rfl)
      have HU := Lib.hid hu
      clear hz hu
      obtain ⟨W0, hW0⟩ : ∃ W0, W0 = w.alloc (.cells #[.string n, .string d] 36) := ⟨_, rfl⟩
      have hB0 : Below w.heap.size w W0 := by rw [hW0]; exact (Below.refl _ _).alloc (Nat.le_refl _) _
      go_enter Tryz.func71, Tryz.ntmps71
      go_wp2_with fail
      rw [← hW0]
      clear hW0
      refine (fParts_v W0 (hG.below hB0) HA.out.val rfl).mono ?_
      rintro _ w1 ⟨rfl, hB⟩
      replace hB := hB0.trans (hB.mono hB0.size)
      clear hB0
      go_wp2_with fail
      refine (div_v w1 (hG.below hB) HA.out.s1 HA.out.s2 (vS_cS _) (vS_cS _) HA.out.pos HA.out.fq HA.out.fr).mono ?_
      rintro _ w2 ⟨rfl, hB2⟩
      replace hB := hB.trans (hB2.mono hB.size)
      clear hB2
      go_wp2_with fail
      refine (add_v (x := r) (y := r) w2 (hG.below hB) HA.out.s4 HA.out.s4 (vS_cS _) (vS_cS _) rfl).mono ?_
      rintro _ w3 ⟨rfl, hB2⟩
      replace hB := hB.trans (hB2.mono hB.size)
      clear hB2
      go_wp2_with fail
      refine (compare_v (x := r + r) (y := (low x).2) w3 HA.out.s5 HA.out.s2 (vS_cS _) (vS_cS _) HC.out).mono ?_
      rintro _ w4 ⟨rfl, hB2⟩
      replace hB := hB.trans (hB2.mono hB.size)
      clear hB2
      go_wp2_with fail
      refine (dUp_any c w4 (hG.below hB) HA.out.s3 (vS_cS q) h1 h6).mono ?_
      rintro _ w5 ⟨rfl, hB2⟩
      replace hB := hB.trans (hB2.mono hB.size)
      clear hB2
      rw [HU.out, ← HSR.out]
      go_wp2_with fail
      refine (add_v (x := q) (y := 1) w5 (hG.below hB) HA.out.s3 (by decide) (vS_cS _) vS_one HE.out).mono ?_
      rintro _ w6 ⟨rfl, hB2⟩
      replace hB := hB.trans (hB2.mono hB.size)
      clear hB2
      go_wp2_with fail
      go_ret2
      exact ⟨rfl, hB⟩

end Go.Proofs.YthhihdihkddakaaGreatDoor
