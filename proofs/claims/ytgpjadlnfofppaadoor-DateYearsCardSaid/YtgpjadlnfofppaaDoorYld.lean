/- Layer 6, the law of P6.4: DateYears: the walk. -/
import Derived.Test.YtgpjadlnfofppaaDoorYlc
namespace Go.Proofs.YtgpjadlnfofppaaDoor
open Go.RowKit Dat

theorem lp_tmod {y : Int} (h : 0 ≤ y) : lpB y = (((y % 4 == 0) && (y % 100 != 0)) || (y % 400 == 0)) := by
  unfold lpB
  rw [Int.tmod_eq_emod_of_nonneg h, Int.tmod_eq_emod_of_nonneg h, Int.tmod_eq_emod_of_nonneg h]
theorem lp_iff {y : Int} (h : 0 ≤ y) : lpB y = true ↔ (y % 4 = 0 ∧ y % 100 ≠ 0) ∨ y % 400 = 0 := by
  rw [lp_tmod h]
  simp
theorem lp_near {y : Int} (h1 : 1900 ≤ y) (h2 : y ≤ 2198) : lpB y = true ↔ y % 4 = 0 ∧ y ≠ 1900 ∧ y ≠ 2100 := by
  rw [lp_iff (by omega)]
  omega
theorem lp_far {y : Int} (h : 0 ≤ y) : lpB (y + 400) = lpB y := by
  rw [Bool.eq_iff_iff, lp_iff (by omega), lp_iff h]
  omega
theorem lp_not {y : Int} (h1 : 1900 ≤ y) (h2 : y ≤ 2198) (hl : lpB y = false) : ¬ (y % 4 = 0) ∨ y = 1900 ∨ y = 2100 := by
  have h3 := lp_near h1 h2
  rw [hl] at h3
  have h4 : ¬ (y % 4 = 0 ∧ y ≠ 1900 ∧ y ≠ 2100) := fun g => absurd (h3.2 g) (by decide)
  omega
theorem jan_is {y : Int} (h1 : 1900 ≤ y) (h2 : y ≤ 2199) : ofR y 1 1 = (nyI y, 0) := by
  have := lenI_low y 1
  unfold ofR
  rw [if_pos (show okT _ _ _ = true from decide_eq_true ⟨by omega, by omega, by omega, by omega, by omega, by omega⟩), cumI_one]
  rw [show nyI y + 0 + 1 - 1 = nyI y by omega]
theorem feb_yes {y : Int} (h1 : 1900 ≤ y) (h2 : y ≤ 2199) (hl : lpB y = true) : ∃ c, ofR y 2 29 = (c, 0) := by
  have h3 : lenI y 2 = 29 := by unfold lenI; rw [if_pos rfl, if_pos hl]
  unfold ofR
  rw [if_pos (show okT _ _ _ = true from decide_eq_true ⟨by omega, by omega, by omega, by omega, by omega, by omega⟩)]
  exact ⟨_, rfl⟩
theorem feb_no {y : Int} (hl : lpB y = false) : ofR y 2 29 = (0, 13) := by
  have h3 : lenI y 2 = 28 := by unfold lenI; rw [if_pos rfl, hl]; rfl
  unfold ofR
  rw [if_neg]
  intro g
  have := of_decide_eq_true g
  omega

set_option maxRecDepth 100000 in
set_option maxHeartbeats 16000000 in
theorem ldy_any (n : Int) (w : World) (hG : Ground w) (n0 : 0 ≤ n) (n1 : n ≤ 65535) : Calls Tryd.prog 8 #[.int .u16 n] w fun e w' => e = .returned (.bool true) ∧ Below w.heap.size w w' := by
  have HA := Lib.hid (fun w (hG : Ground w) => awake_any w hG)
  have HG := Lib.hid hG
  obtain ⟨y, hy⟩ : ∃ y, 1900 + n % 299 = y := ⟨_, rfl⟩
  have y0 : 1900 ≤ y := by omega
  have y1 : y ≤ 2198 := by omega
  obtain ⟨A, hA⟩ : ∃ A, nyI y = A := ⟨_, rfl⟩
  obtain ⟨B, hB⟩ : ∃ B, nyI (y + 1) = B := ⟨_, rfl⟩
  have hs := nyI_succ (y := y) (by omega)
  have ba := nyI_bound (y := y) (by omega) (by omega)
  rw [hA] at ba
  rw [hA, hB] at hs
  obtain ⟨ba1, ba2⟩ := ba
  have bb1 : -900000 ≤ B := by split at hs <;> omega
  have bb2 : B ≤ 4000000 := by split at hs <;> omega
  have H1 := Lib.hid (fun w (hG : Ground w) => pOf y 1 1 A 0 w hG (by rw [jan_is y0 (by omega), hA]))
  have H2 := Lib.hid (fun w (hG : Ground w) => pOf (y + 1) 1 1 B 0 w hG (by rw [jan_is (by omega) (by omega), hB]))
  have H4 := Lib.hid (fun w => pLeap y w)
  have H5 := Lib.hid (fun w => pLeap (y + 400) w)
  rw [lp_far (by omega)] at H5
  have HY := Lib.hid hy
  cases hl : lpB y with
  | true =>
    rw [hl] at H4 H5
    rw [hl, if_pos rfl] at hs
    obtain ⟨C, hC⟩ := feb_yes y0 (by omega) hl
    have H3 := Lib.hid (fun w (hG : Ground w) => pOf y 2 29 C 0 w hG hC)
    have h4 := (lp_near y0 y1).1 hl
    have b1 : (y % 4 == 0) = true := by rw [beq_iff_eq]; exact h4.1
    have b2 : (y != 1900) = true := by rw [bne_iff_ne]; exact h4.2.1
    have b3 : (y != 2100) = true := by rw [bne_iff_ne]; exact h4.2.2
    have b4 : (B - A != 366) = false := by rw [bne_eq_false_iff_eq]; omega
    clear hl hs hA hB hC h4 hG hy
    go_enter Tryd.func8, Tryd.ntmps8
    go_upto_region 2 with fail
    rw [HY.out]
    go_wp2_with fail
    refine (H1.out _ HG.out).mono ?_
    rintro _ _ ⟨rfl, rfl⟩
    go_wp2_with fail
    refine (H2.out _ HG.out).mono ?_
    rintro _ _ ⟨rfl, rfl⟩
    go_wp2_with fail
    refine (H3.out _ HG.out).mono ?_
    rintro _ _ ⟨rfl, rfl⟩
    go_wp2_with fail
    refine (H4.out _).mono ?_
    rintro _ _ ⟨rfl, rfl⟩
    go_wp2_with fail
    refine (H4.out _).mono ?_
    rintro _ _ ⟨rfl, rfl⟩
    go_wp2_with fail
    refine (H4.out _).mono ?_
    rintro _ _ ⟨rfl, rfl⟩
    go_wp2_with fail
    refine (H4.out _).mono ?_
    rintro _ _ ⟨rfl, rfl⟩
    go_wp2_with fail
    refine (H5.out _).mono ?_
    rintro _ _ ⟨rfl, rfl⟩
    go_wp2_with fail
    refine (HA.out _ HG.out).mono ?_
    rintro _ w1 ⟨rfl, hB1⟩
    have HG1 := Lib.hid (HG.out.below hB1)
    have HB1 := Lib.hid hB1
    clear hB1
    go_wp2_with fail
    go_ret
    exact ⟨rfl, HB1.out⟩
  | false =>
    rw [hl] at H4 H5
    rw [hl, if_neg (by decide)] at hs
    have H3 := Lib.hid (fun w (hG : Ground w) => pOf y 2 29 0 13 w hG (feb_no hl))
    have h4 := lp_not y0 y1 hl
    have b4 : (B - A != 365) = false := by rw [bne_eq_false_iff_eq]; omega
    clear hl hs hA hB hG hy
    by_cases c1 : y % 4 = 0
    · have b1 : (y % 4 == 0) = true := by rw [beq_iff_eq]; exact c1
      by_cases c2 : y = 1900
      · have b2 : (y != 1900) = false := by rw [bne_eq_false_iff_eq]; exact c2
        clear c1 c2 h4
        go_enter Tryd.func8, Tryd.ntmps8
        go_upto_region 2 with fail
        rw [HY.out]
        go_wp2_with fail
        refine (H1.out _ HG.out).mono ?_
        rintro _ _ ⟨rfl, rfl⟩
        go_wp2_with fail
        refine (H2.out _ HG.out).mono ?_
        rintro _ _ ⟨rfl, rfl⟩
        go_wp2_with fail
        refine (H3.out _ HG.out).mono ?_
        rintro _ _ ⟨rfl, rfl⟩
        go_wp2_with fail
        refine (H4.out _).mono ?_
        rintro _ _ ⟨rfl, rfl⟩
        go_wp2_with fail
        refine (H4.out _).mono ?_
        rintro _ _ ⟨rfl, rfl⟩
        go_wp2_with fail
        refine (H4.out _).mono ?_
        rintro _ _ ⟨rfl, rfl⟩
        go_wp2_with fail
        refine (H4.out _).mono ?_
        rintro _ _ ⟨rfl, rfl⟩
        go_wp2_with fail
        refine (H5.out _).mono ?_
        rintro _ _ ⟨rfl, rfl⟩
        go_wp2_with fail
        refine (HA.out _ HG.out).mono ?_
        rintro _ w2 ⟨rfl, hB2⟩
        have HG2 := Lib.hid (HG.out.below hB2)
        have HB2 := Lib.hid hB2
        clear hB2
        go_wp2_with fail
        go_ret
        exact ⟨rfl, HB2.out⟩
      · have b2 : (y != 1900) = true := by rw [bne_iff_ne]; exact c2
        have b3 : (y != 2100) = false := by rw [bne_eq_false_iff_eq]; omega
        clear c1 c2 h4
        go_enter Tryd.func8, Tryd.ntmps8
        go_upto_region 2 with fail
        rw [HY.out]
        go_wp2_with fail
        refine (H1.out _ HG.out).mono ?_
        rintro _ _ ⟨rfl, rfl⟩
        go_wp2_with fail
        refine (H2.out _ HG.out).mono ?_
        rintro _ _ ⟨rfl, rfl⟩
        go_wp2_with fail
        refine (H3.out _ HG.out).mono ?_
        rintro _ _ ⟨rfl, rfl⟩
        go_wp2_with fail
        refine (H4.out _).mono ?_
        rintro _ _ ⟨rfl, rfl⟩
        go_wp2_with fail
        refine (H4.out _).mono ?_
        rintro _ _ ⟨rfl, rfl⟩
        go_wp2_with fail
        refine (H4.out _).mono ?_
        rintro _ _ ⟨rfl, rfl⟩
        go_wp2_with fail
        refine (H4.out _).mono ?_
        rintro _ _ ⟨rfl, rfl⟩
        go_wp2_with fail
        refine (H5.out _).mono ?_
        rintro _ _ ⟨rfl, rfl⟩
        go_wp2_with fail
        refine (HA.out _ HG.out).mono ?_
        rintro _ w3 ⟨rfl, hB3⟩
        have HG3 := Lib.hid (HG.out.below hB3)
        have HB3 := Lib.hid hB3
        clear hB3
        go_wp2_with fail
        go_ret
        exact ⟨rfl, HB3.out⟩
    · have b1 : (y % 4 == 0) = false := by rw [beq_eq_false_iff_ne]; exact c1
      clear c1 h4
      go_enter Tryd.func8, Tryd.ntmps8
      go_upto_region 2 with fail
      rw [HY.out]
      go_wp2_with fail
      refine (H1.out _ HG.out).mono ?_
      rintro _ _ ⟨rfl, rfl⟩
      go_wp2_with fail
      refine (H2.out _ HG.out).mono ?_
      rintro _ _ ⟨rfl, rfl⟩
      go_wp2_with fail
      refine (H3.out _ HG.out).mono ?_
      rintro _ _ ⟨rfl, rfl⟩
      go_wp2_with fail
      refine (H4.out _).mono ?_
      rintro _ _ ⟨rfl, rfl⟩
      go_wp2_with fail
      refine (H4.out _).mono ?_
      rintro _ _ ⟨rfl, rfl⟩
      go_wp2_with fail
      refine (H4.out _).mono ?_
      rintro _ _ ⟨rfl, rfl⟩
      go_wp2_with fail
      refine (H4.out _).mono ?_
      rintro _ _ ⟨rfl, rfl⟩
      go_wp2_with fail
      refine (H5.out _).mono ?_
      rintro _ _ ⟨rfl, rfl⟩
      go_wp2_with fail
      refine (HA.out _ HG.out).mono ?_
      rintro _ w4 ⟨rfl, hB4⟩
      have HG4 := Lib.hid (HG.out.below hB4)
      have HB4 := Lib.hid hB4
      clear hB4
      go_wp2_with fail
      go_ret
      exact ⟨rfl, HB4.out⟩

end Go.Proofs.YtgpjadlnfofppaaDoor
