/- Layer 6, the law of P6.6: DateWhole: the walk. -/
import Derived.Test.YtgpjadlnfofppaaDoorYlc
namespace Go.Proofs.YtgpjadlnfofppaaDoor
open Go.RowKit Dat

/-- what a day shifted by the whole months is, and by one more -/
theorem whole_add {a b : Int} (ha : okD a = true) (hb : okD b = true) (h : a ≤ b) : ∃ N c d e : Int, N = months (ix a) (ix b) ∧ 0 ≤ N ∧ N ≤ 3600 ∧ addR a N = (c, 0) ∧ c ≤ b ∧ addR a (N + 1) = (d, e) ∧ (e = 0 ∧ b < d ∨ e = 13) := by
  obtain ⟨xa, na⟩ := ix_is ha
  obtain ⟨xb, nb⟩ := ix_is hb
  obtain ⟨h1, h2⟩ := months_is (ix_le ha hb h)
  have hma := mo_small na
  obtain ⟨j, hj⟩ : ∃ j, mo (ix a) + months (ix a) (ix b) = j := ⟨_, rfl⟩
  rw [hj] at h1 h2
  have hjs : j < 3600 := by
    rcases Nat.lt_or_ge j 3600 with q | q
    · exact q
    · have g1 := st_le q
      have g2 := (am_in (ix a) j).1
      rw [st_all] at g1
      omega
  obtain ⟨N, hN⟩ : ∃ N : Int, N = months (ix a) (ix b) := ⟨_, rfl⟩
  have e1 : addR a N = ((am (ix a) j : Int) - 25567, 0) := by
    unfold addR
    rw [if_pos ha, if_neg (by omega), if_pos (by omega), show ((mo (ix a) : Int) + N).toNat = j by omega]
  by_cases hk : j + 1 < 3600
  · have e2 : addR a (N + 1) = ((am (ix a) (j + 1) : Int) - 25567, 0) := by
      unfold addR
      rw [if_pos ha, if_neg (by omega), if_pos (by omega), show ((mo (ix a) : Int) + (N + 1)).toNat = j + 1 by omega]
    exact ⟨N, _, _, _, hN, by omega, by omega, e1, by omega, e2, Or.inl ⟨rfl, by omega⟩⟩
  · have e2 : addR a (N + 1) = (0, 13) := by
      unfold addR
      rw [if_pos ha, if_neg (by omega), if_neg (by omega)]
    exact ⟨N, _, _, _, hN, by omega, by omega, e1, by omega, e2, Or.inr rfl⟩
theorem monR_gt {a b : Int} (ha : okD a = true) (hb : okD b = true) (h : b < a) : monR a b = (-(months (ix b) (ix a) : Int), 0) := by unfold monR; rw [if_pos ⟨ha, hb⟩, if_neg (by omega)]
theorem monR_bad1 {a b : Int} (ha : okD a = false) : monR a b = (0, 13) := by unfold monR; rw [if_neg (fun g => by rw [ha] at g; exact absurd g.1 (by decide))]
theorem monR_bad2 {a b : Int} (hb : okD b = false) : monR a b = (0, 13) := by unfold monR; rw [if_neg (fun g => by rw [hb] at g; exact absurd g.2 (by decide))]
theorem months_eq {a b : Int} (h : a = b) : months (ix a) (ix b) = 0 := by rw [h]; exact months_same _

set_option maxRecDepth 100000 in
set_option maxHeartbeats 16000000 in
theorem ldh_any (a b : Int) (w : World) (hG : Ground w) : Calls Tryd.prog 10 #[.int .i64 a, .int .i64 b] w fun e w' => e = .returned (.bool true) ∧ Below w.heap.size w w' := by
  have HA := Lib.hid (fun w (hG : Ground w) => awake_any w hG)
  have HVA := Lib.hid (fun w => lValid a w)
  have HVB := Lib.hid (fun w => lValid b w)
  have HG := Lib.hid hG
  cases ha : okD a with
  | false =>
    rw [ha] at HVA
    have H1 := Lib.hid (fun w (hG : Ground w) => pMon a b 0 13 w hG (monR_bad1 ha))
    clear hG ha HVB
    go_enter Tryd.func10, Tryd.ntmps10
    go_wp2_with fail
    refine (H1.out _ HG.out).mono ?_
    rintro _ _ ⟨rfl, rfl⟩
    go_wp2_with fail
    refine (HVA.out _).mono ?_
    rintro _ _ ⟨rfl, rfl⟩
    go_wp2_with fail
    refine (HA.out _ HG.out).mono ?_
    rintro _ w1 ⟨rfl, hB1⟩
    have HG1 := Lib.hid (HG.out.below hB1)
    have HB1 := Lib.hid hB1
    clear hB1
    go_wp2_with fail
    go_ret
    exact ⟨rfl, HB1.out⟩
  | true =>
    rw [ha] at HVA
    cases hb : okD b with
    | false =>
      rw [hb] at HVB
      have H1 := Lib.hid (fun w (hG : Ground w) => pMon a b 0 13 w hG (monR_bad2 hb))
      clear hG ha hb
      go_enter Tryd.func10, Tryd.ntmps10
      go_wp2_with fail
      refine (H1.out _ HG.out).mono ?_
      rintro _ _ ⟨rfl, rfl⟩
      go_wp2_with fail
      refine (HVA.out _).mono ?_
      rintro _ _ ⟨rfl, rfl⟩
      go_wp2_with fail
      refine (HVB.out _).mono ?_
      rintro _ _ ⟨rfl, rfl⟩
      go_wp2_with fail
      refine (HA.out _ HG.out).mono ?_
      rintro _ w2 ⟨rfl, hB2⟩
      have HG2 := Lib.hid (HG.out.below hB2)
      have HB2 := Lib.hid hB2
      clear hB2
      go_wp2_with fail
      go_ret
      exact ⟨rfl, HB2.out⟩
    | true =>
      rw [hb] at HVB
      by_cases hab : a ≤ b
      · obtain ⟨N, c, d, e, hN, n0, n1, e1, hc, e2, hde⟩ := whole_add ha hb hab
        obtain ⟨M, hM⟩ : ∃ M : Int, M = -N := ⟨_, rfl⟩
        have H1 := Lib.hid (fun w (hG : Ground w) => pMon a b N 0 w hG (by rw [monR_le ha hb hab, hN]))
        have H2 := Lib.hid (fun w (hG : Ground w) => pMon b a M 0 w hG (by
          by_cases q : b ≤ a
          · have h1 := months_eq (show a = b by omega)
            have h2 := months_eq (show b = a by omega)
            rw [monR_le hb ha q, h2, hM, hN, h1]
            rfl
          · rw [monR_gt hb ha (by omega), hM, hN]))
        have H3 := Lib.hid (fun w (hG : Ground w) => pAdd a N c 0 w hG e1)
        have H4 := Lib.hid (fun w (hG : Ground w) => pAdd a (N + 1) d e w hG e2)
        have hm0 : -4000 ≤ M := by omega
        have hm1 : M ≤ 4000 := by omega
        have hq : (N != -M) = false := by rw [bne_eq_false_iff_eq]; omega
        clear hG ha hb hN hM e1 e2
        rcases hde with hde | hde
        · obtain ⟨rfl, hbd⟩ := hde
          go_enter Tryd.func10, Tryd.ntmps10
          go_wp2_with fail
          refine (H1.out _ HG.out).mono ?_
          rintro _ _ ⟨rfl, rfl⟩
          go_wp2_with fail
          refine (HVA.out _).mono ?_
          rintro _ _ ⟨rfl, rfl⟩
          go_wp2_with fail
          refine (HVB.out _).mono ?_
          rintro _ _ ⟨rfl, rfl⟩
          go_wp2_with fail
          refine (H2.out _ HG.out).mono ?_
          rintro _ _ ⟨rfl, rfl⟩
          go_wp2_with fail
          refine (H3.out _ HG.out).mono ?_
          rintro _ _ ⟨rfl, rfl⟩
          go_wp2_with fail
          refine (H4.out _ HG.out).mono ?_
          rintro _ _ ⟨rfl, rfl⟩
          go_wp2_with fail
          refine (HA.out _ HG.out).mono ?_
          rintro _ w3 ⟨rfl, hB3⟩
          have HG3 := Lib.hid (HG.out.below hB3)
          have HB3 := Lib.hid hB3
          clear hB3
          go_wp2_with fail
          go_ret
          exact ⟨rfl, HB3.out⟩
        · subst hde
          go_enter Tryd.func10, Tryd.ntmps10
          go_wp2_with fail
          refine (H1.out _ HG.out).mono ?_
          rintro _ _ ⟨rfl, rfl⟩
          go_wp2_with fail
          refine (HVA.out _).mono ?_
          rintro _ _ ⟨rfl, rfl⟩
          go_wp2_with fail
          refine (HVB.out _).mono ?_
          rintro _ _ ⟨rfl, rfl⟩
          go_wp2_with fail
          refine (H2.out _ HG.out).mono ?_
          rintro _ _ ⟨rfl, rfl⟩
          go_wp2_with fail
          refine (H3.out _ HG.out).mono ?_
          rintro _ _ ⟨rfl, rfl⟩
          go_wp2_with fail
          refine (H4.out _ HG.out).mono ?_
          rintro _ _ ⟨rfl, rfl⟩
          go_wp2_with fail
          refine (HA.out _ HG.out).mono ?_
          rintro _ w4 ⟨rfl, hB4⟩
          have HG4 := Lib.hid (HG.out.below hB4)
          have HB4 := Lib.hid hB4
          clear hB4
          go_wp2_with fail
          go_ret
          exact ⟨rfl, HB4.out⟩
      · obtain ⟨N, c, d, e, hN, n0, n1, e1, hc, e2, hde⟩ := whole_add hb ha (by omega)
        obtain ⟨M, hM⟩ : ∃ M : Int, M = -N := ⟨_, rfl⟩
        have H1 := Lib.hid (fun w (hG : Ground w) => pMon a b M 0 w hG (by rw [monR_gt ha hb (by omega), hM, hN]))
        have H2 := Lib.hid (fun w (hG : Ground w) => pMon b a N 0 w hG (by rw [monR_le hb ha (by omega), hN]))
        have H3 := Lib.hid (fun w (hG : Ground w) => pAdd b N c 0 w hG e1)
        have H4 := Lib.hid (fun w (hG : Ground w) => pAdd b (N + 1) d e w hG e2)
        have hm0 : -4000 ≤ M := by omega
        have hm1 : M ≤ 4000 := by omega
        have hq : (M != -N) = false := by rw [bne_eq_false_iff_eq]; omega
        clear hG ha hb hN hM e1 e2
        rcases hde with hde | hde
        · obtain ⟨rfl, hbd⟩ := hde
          go_enter Tryd.func10, Tryd.ntmps10
          go_wp2_with fail
          refine (H1.out _ HG.out).mono ?_
          rintro _ _ ⟨rfl, rfl⟩
          go_wp2_with fail
          refine (HVA.out _).mono ?_
          rintro _ _ ⟨rfl, rfl⟩
          go_wp2_with fail
          refine (HVB.out _).mono ?_
          rintro _ _ ⟨rfl, rfl⟩
          go_wp2_with fail
          refine (H2.out _ HG.out).mono ?_
          rintro _ _ ⟨rfl, rfl⟩
          go_wp2_with fail
          refine (H3.out _ HG.out).mono ?_
          rintro _ _ ⟨rfl, rfl⟩
          go_wp2_with fail
          refine (H4.out _ HG.out).mono ?_
          rintro _ _ ⟨rfl, rfl⟩
          go_wp2_with fail
          refine (HA.out _ HG.out).mono ?_
          rintro _ w5 ⟨rfl, hB5⟩
          have HG5 := Lib.hid (HG.out.below hB5)
          have HB5 := Lib.hid hB5
          clear hB5
          go_wp2_with fail
          go_ret
          exact ⟨rfl, HB5.out⟩
        · subst hde
          go_enter Tryd.func10, Tryd.ntmps10
          go_wp2_with fail
          refine (H1.out _ HG.out).mono ?_
          rintro _ _ ⟨rfl, rfl⟩
          go_wp2_with fail
          refine (HVA.out _).mono ?_
          rintro _ _ ⟨rfl, rfl⟩
          go_wp2_with fail
          refine (HVB.out _).mono ?_
          rintro _ _ ⟨rfl, rfl⟩
          go_wp2_with fail
          refine (H2.out _ HG.out).mono ?_
          rintro _ _ ⟨rfl, rfl⟩
          go_wp2_with fail
          refine (H3.out _ HG.out).mono ?_
          rintro _ _ ⟨rfl, rfl⟩
          go_wp2_with fail
          refine (H4.out _ HG.out).mono ?_
          rintro _ _ ⟨rfl, rfl⟩
          go_wp2_with fail
          refine (HA.out _ HG.out).mono ?_
          rintro _ w6 ⟨rfl, hB6⟩
          have HG6 := Lib.hid (HG.out.below hB6)
          have HB6 := Lib.hid hB6
          clear hB6
          go_wp2_with fail
          go_ret
          exact ⟨rfl, HB6.out⟩

end Go.Proofs.YtgpjadlnfofppaaDoor
