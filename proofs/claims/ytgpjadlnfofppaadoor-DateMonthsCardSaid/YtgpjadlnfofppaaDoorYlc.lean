/- Layer 6, the laws of P6.2 and P6.3: DateThereAndBack, DateWeeks: the walks. -/
import Derived.Test.YtgpjadlnfofppaaDoorYla
namespace Go.Proofs.YtgpjadlnfofppaaDoor
open Go.RowKit Dat

/-- the day of the date of a day -/
theorem of_parts {d Y M D : Int} (hd : okD d = true) (hY : Y = yr (ix d)) (hM : M = mn (ix d)) (hD : D = dy (ix d)) : ofR Y M D = (d, 0) := by
  obtain ⟨hx, hn⟩ := ix_is hd
  have h1 := yr_low (ix d)
  have h2 := yr_high hn
  have h3 := mn_le (ix d)
  have h4 := dy_le (ix d)
  have h7 := lenI_nat (yr (ix d)) (mn (ix d))
  have hi := day_is (ix d)
  unfold ofR
  rw [hY, hM, hD, if_pos (show okT _ _ _ = true from decide_eq_true ⟨by omega, by omega, by omega, by omega, by omega, by omega⟩)]
  rw [hi, hx]
  rw [show d + 25567 - 25567 = d by omega]
theorem max_parts : ofR 2199 12 31 = (84005, 0) := by decide
theorem ix_next {d : Int} (h1 : okD d = true) (h2 : okD (d + 1) = true) : ix (d + 1) = ix d + 1 := by
  have a := ix_is h1
  have b := ix_is h2
  omega
/-- the next day in the month -/
theorem next_in {d l Y M D : Int} (h1 : okD d = true) (h2 : okD (d + 1) = true) (hl : lastR d = (l, 0)) (h : d < l) (hY : Y = yr (ix d)) (hM : M = mn (ix d)) (hD : D = dy (ix d)) : partsR (d + 1) = (Y, M, D + 1, 0) := by
  have a := ix_is h1
  unfold lastR at hl
  rw [if_pos h1] at hl
  have hl1 := (Prod.mk.inj hl).1
  have hlt : ix d < lst (ix d) := by omega
  have hm := (mo_next (ix d)).1 hlt
  have hd := dy_next hlt
  unfold partsR
  rw [if_pos h2, ix_next h1 h2, hd, hY, hM, hD]
  unfold yr mn
  rw [hm]
  rfl
/-- the next day in the next month -/
theorem next_out {d l Y M : Int} (h1 : okD d = true) (h2 : okD (d + 1) = true) (hl : lastR d = (l, 0)) (h : ¬ d < l) (hY : Y = yr (ix d)) (hM : M = mn (ix d)) : l = d ∧ ∃ Z K : Int, partsR (d + 1) = (Z, K, 1, 0) ∧ 12 * Z + K = 12 * Y + M + 1 ∧ 0 ≤ Z ∧ Z ≤ 10000 ∧ 0 ≤ K ∧ K ≤ 100 := by
  have a := ix_is h1
  have b := ix_is h2
  unfold lastR at hl
  rw [if_pos h1] at hl
  have hl1 := (Prod.mk.inj hl).1
  obtain ⟨e1, e2, e3⟩ := (mo_next (ix d)).2 (by omega)
  have y1 := yr_high b.2
  have y2 := yr_mn (ix d)
  have y3 := yr_mn (ix (d + 1))
  have y4 := mn_le (ix (d + 1))
  rw [ix_next h1 h2] at y1 y3 y4
  rw [e2] at y3
  refine ⟨by omega, ((yr (ix d + 1) : Nat) : Int), ((mn (ix d + 1) : Nat) : Int), ?_, by omega, by omega, by omega, by omega, by omega⟩
  unfold partsR
  rw [if_pos h2, ix_next h1 h2, e3]
  rfl

set_option maxRecDepth 100000 in
set_option maxHeartbeats 16000000 in
theorem ldb_any (d : Int) (w : World) (hG : Ground w) : Calls Tryd.prog 6 #[.int .i64 d] w fun e w' => e = .returned (.bool true) ∧ Below w.heap.size w w' := by
  have HA := Lib.hid (fun w (hG : Ground w) => awake_any w hG)
  have HV := Lib.hid (fun w => lValid d w)
  have HG := Lib.hid hG
  cases hd : okD d with
  | false =>
    rw [hd] at HV
    have H1 := Lib.hid (fun w (hG : Ground w) => pParts d 0 0 0 13 w hG (partsR_bad hd))
    clear hG hd
    go_enter Tryd.func6, Tryd.ntmps6
    go_wp2_with fail
    refine (H1.out _ HG.out).mono ?_
    rintro _ _ ⟨rfl, rfl⟩
    go_wp2_with fail
    refine (HV.out _).mono ?_
    rintro _ _ ⟨rfl, rfl⟩
    go_wp2_with fail
    refine (HA.out _ HG.out).mono ?_
    rintro _ w1 ⟨rfl, hB1⟩
    have HG1 := Lib.hid (HG.out.below hB1)
    have HB1 := Lib.hid hB1
    clear hB1
    go_wp2_with fail
    go_ret
    exact ⟨rfl, HB1.out⟩
  | true =>
    rw [hd] at HV
    obtain ⟨Y, M, D, hY, hM, hD, y1, y2, m1, m2, e1, e2, _, _⟩ := parts_of hd
    have H1 := Lib.hid (fun w (hG : Ground w) => pParts d Y M D 0 w hG (partsR_ok hd hY hM hD))
    have H2 := Lib.hid (fun w (hG : Ground w) => pOf Y M D d 0 w hG (of_parts hd hY hM hD))
    obtain ⟨d1, d2⟩ := okD_iff.1 hd
    by_cases hx : d = 84005
    · subst hx
      obtain ⟨_, g1, g2, g3, _⟩ := date_at max_parts
      obtain rfl : Y = 2199 := by omega
      obtain rfl : M = 12 := by omega
      obtain rfl : D = 31 := by omega
      clear hG hd hY hM hD g1 g2 g3 d1 d2 y1 y2 m1 m2 e1 e2
      go_enter Tryd.func6, Tryd.ntmps6
      go_wp2_with fail
      refine (H1.out _ HG.out).mono ?_
      rintro _ _ ⟨rfl, rfl⟩
      go_wp2_with fail
      refine (HV.out _).mono ?_
      rintro _ _ ⟨rfl, rfl⟩
      go_wp2_with fail
      refine (H2.out _ HG.out).mono ?_
      rintro _ _ ⟨rfl, rfl⟩
      go_wp2_with fail
      refine (HA.out _ HG.out).mono ?_
      rintro _ w2 ⟨rfl, hB2⟩
      have HG2 := Lib.hid (HG.out.below hB2)
      have HB2 := Lib.hid hB2
      clear hB2
      go_wp2_with fail
      go_ret
      exact ⟨rfl, HB2.out⟩
    · have hxb : (d == 84005) = false := by rw [beq_eq_false_iff_ne]; exact hx
      have hd1 : okD (d + 1) = true := okD_iff.2 (by omega)
      obtain ⟨l, hl⟩ : ∃ l, lastR d = (l, 0) := by unfold lastR; rw [if_pos hd]; exact ⟨_, rfl⟩
      have H3 := Lib.hid (fun w (hG : Ground w) => pLast d l 0 w hG hl)
      by_cases hlt : d < l
      · have H4 := Lib.hid (fun w (hG : Ground w) => pParts (d + 1) Y M (D + 1) 0 w hG (next_in hd hd1 hl hlt hY hM hD))
        clear hG hd hd1 hl hY hM hD hx
        go_enter Tryd.func6, Tryd.ntmps6
        go_wp2_with fail
        refine (H1.out _ HG.out).mono ?_
        rintro _ _ ⟨rfl, rfl⟩
        go_wp2_with fail
        refine (HV.out _).mono ?_
        rintro _ _ ⟨rfl, rfl⟩
        go_wp2_with fail
        refine (H2.out _ HG.out).mono ?_
        rintro _ _ ⟨rfl, rfl⟩
        go_wp2_with fail
        refine (H4.out _ HG.out).mono ?_
        rintro _ _ ⟨rfl, rfl⟩
        go_wp2_with fail
        refine (H3.out _ HG.out).mono ?_
        rintro _ _ ⟨rfl, rfl⟩
        go_wp2_with fail
        refine (HA.out _ HG.out).mono ?_
        rintro _ w3 ⟨rfl, hB3⟩
        have HG3 := Lib.hid (HG.out.below hB3)
        have HB3 := Lib.hid hB3
        clear hB3
        go_wp2_with fail
        go_ret
        exact ⟨rfl, HB3.out⟩
      · obtain ⟨rfl, Z, K, hz, hzk, z1, z2, k1, k2⟩ := next_out hd hd1 hl hlt hY hM
        have H4 := Lib.hid (fun w (hG : Ground w) => pParts (l + 1) Z K 1 0 w hG hz)
        have hzb : (12 * Z + K == 12 * Y + M + 1) = true := by rw [beq_iff_eq]; exact hzk
        clear hG hd hd1 hl hY hM hD hx hz hzk hlt
        go_enter Tryd.func6, Tryd.ntmps6
        go_wp2_with fail
        refine (H1.out _ HG.out).mono ?_
        rintro _ _ ⟨rfl, rfl⟩
        go_wp2_with fail
        refine (HV.out _).mono ?_
        rintro _ _ ⟨rfl, rfl⟩
        go_wp2_with fail
        refine (H2.out _ HG.out).mono ?_
        rintro _ _ ⟨rfl, rfl⟩
        go_wp2_with fail
        refine (H4.out _ HG.out).mono ?_
        rintro _ _ ⟨rfl, rfl⟩
        go_wp2_with fail
        refine (H3.out _ HG.out).mono ?_
        rintro _ _ ⟨rfl, rfl⟩
        go_wp2_with fail
        refine (HA.out _ HG.out).mono ?_
        rintro _ w4 ⟨rfl, hB4⟩
        have HG4 := Lib.hid (HG.out.below hB4)
        have HB4 := Lib.hid hB4
        clear hB4
        go_wp2_with fail
        go_ret
        exact ⟨rfl, HB4.out⟩

set_option maxRecDepth 100000 in
set_option maxHeartbeats 16000000 in
theorem ldw_any (d : Int) (w : World) (hG : Ground w) : Calls Tryd.prog 7 #[.int .i64 d] w fun e w' => e = .returned (.bool true) ∧ Below w.heap.size w w' := by
  have HA := Lib.hid (fun w (hG : Ground w) => awake_any w hG)
  have HV := Lib.hid (fun w => lValid d w)
  have HV1 := Lib.hid (fun w => lValid (d + 1) w)
  have HV7 := Lib.hid (fun w => lValid (d + 7) w)
  have HG := Lib.hid hG
  cases hd : okD d with
  | false =>
    rw [hd] at HV
    have H1 := Lib.hid (fun w (hG : Ground w) => pWd d 0 13 w hG (by unfold wdR; rw [hd]; rfl))
    clear hG hd HV1 HV7
    go_enter Tryd.func7, Tryd.ntmps7
    go_wp2_with fail
    refine (H1.out _ HG.out).mono ?_
    rintro _ _ ⟨rfl, rfl⟩
    go_wp2_with fail
    refine (HV.out _).mono ?_
    rintro _ _ ⟨rfl, rfl⟩
    go_wp2_with fail
    refine (HA.out _ HG.out).mono ?_
    rintro _ w5 ⟨rfl, hB5⟩
    have HG5 := Lib.hid (HG.out.below hB5)
    have HB5 := Lib.hid hB5
    clear hB5
    go_wp2_with fail
    go_ret
    exact ⟨rfl, HB5.out⟩
  | true =>
    rw [hd] at HV
    obtain ⟨d1, d2⟩ := okD_iff.1 hd
    obtain ⟨v, hv⟩ : ∃ v, (d + 25567) % 7 = v := ⟨_, rfl⟩
    have v0 : 0 ≤ v := by omega
    have v6 : v ≤ 6 := by omega
    have H1 := Lib.hid (fun w (hG : Ground w) => pWd d v 0 w hG (by unfold wdR; rw [if_pos hd, hv]))
    have H3 := Lib.hid (fun (h : okD (d + 1) = true) w (hG : Ground w) => pWd (d + 1) ((v + 1) % 7) 0 w hG (by unfold wdR; rw [if_pos h, show (d + 1 + 25567) % 7 = (v + 1) % 7 by omega]))
    have H4 := Lib.hid (fun (h : okD (d + 7) = true) w (hG : Ground w) => pWd (d + 7) v 0 w hG (by unfold wdR; rw [if_pos h, show (d + 7 + 25567) % 7 = v by omega]))
    clear hG hd hv
    cases h1 : okD (d + 1)
    case false =>
      rw [h1] at HV1
      have H31 := Lib.hid h1
      clear h1
      cases h7 : okD (d + 7)
      case false =>
        rw [h7] at HV7
        have H41 := Lib.hid h7
        clear h7
        go_enter Tryd.func7, Tryd.ntmps7
        go_wp2_with fail
        refine (H1.out _ HG.out).mono ?_
        rintro _ _ ⟨rfl, rfl⟩
        go_wp2_with fail
        refine (HV.out _).mono ?_
        rintro _ _ ⟨rfl, rfl⟩
        go_wp2_with fail
        refine (HV1.out _).mono ?_
        rintro _ _ ⟨rfl, rfl⟩
        go_wp2_with fail
        refine (HV7.out _).mono ?_
        rintro _ _ ⟨rfl, rfl⟩
        go_wp2_with fail
        refine (HA.out _ HG.out).mono ?_
        rintro _ w6 ⟨rfl, hB6⟩
        have HG6 := Lib.hid (HG.out.below hB6)
        have HB6 := Lib.hid hB6
        clear hB6
        go_wp2_with fail
        go_ret
        exact ⟨rfl, HB6.out⟩
      case true =>
        rw [h7] at HV7
        have H41 := Lib.hid h7
        clear h7
        go_enter Tryd.func7, Tryd.ntmps7
        go_wp2_with fail
        refine (H1.out _ HG.out).mono ?_
        rintro _ _ ⟨rfl, rfl⟩
        go_wp2_with fail
        refine (HV.out _).mono ?_
        rintro _ _ ⟨rfl, rfl⟩
        go_wp2_with fail
        refine (HV1.out _).mono ?_
        rintro _ _ ⟨rfl, rfl⟩
        go_wp2_with fail
        refine (HV7.out _).mono ?_
        rintro _ _ ⟨rfl, rfl⟩
        go_wp2_with fail
        refine (H4.out H41.out _ HG.out).mono ?_
        rintro _ _ ⟨rfl, rfl⟩
        go_wp2_with fail
        refine (HA.out _ HG.out).mono ?_
        rintro _ w7 ⟨rfl, hB7⟩
        have HG7 := Lib.hid (HG.out.below hB7)
        have HB7 := Lib.hid hB7
        clear hB7
        go_wp2_with fail
        go_ret
        exact ⟨rfl, HB7.out⟩
    case true =>
      rw [h1] at HV1
      have H31 := Lib.hid h1
      clear h1
      cases h7 : okD (d + 7)
      case false =>
        rw [h7] at HV7
        have H41 := Lib.hid h7
        clear h7
        go_enter Tryd.func7, Tryd.ntmps7
        go_wp2_with fail
        refine (H1.out _ HG.out).mono ?_
        rintro _ _ ⟨rfl, rfl⟩
        go_wp2_with fail
        refine (HV.out _).mono ?_
        rintro _ _ ⟨rfl, rfl⟩
        go_wp2_with fail
        refine (HV1.out _).mono ?_
        rintro _ _ ⟨rfl, rfl⟩
        go_wp2_with fail
        refine (H3.out H31.out _ HG.out).mono ?_
        rintro _ _ ⟨rfl, rfl⟩
        go_wp2_with fail
        refine (HV7.out _).mono ?_
        rintro _ _ ⟨rfl, rfl⟩
        go_wp2_with fail
        refine (HA.out _ HG.out).mono ?_
        rintro _ w8 ⟨rfl, hB8⟩
        have HG8 := Lib.hid (HG.out.below hB8)
        have HB8 := Lib.hid hB8
        clear hB8
        go_wp2_with fail
        go_ret
        exact ⟨rfl, HB8.out⟩
      case true =>
        rw [h7] at HV7
        have H41 := Lib.hid h7
        clear h7
        go_enter Tryd.func7, Tryd.ntmps7
        go_wp2_with fail
        refine (H1.out _ HG.out).mono ?_
        rintro _ _ ⟨rfl, rfl⟩
        go_wp2_with fail
        refine (HV.out _).mono ?_
        rintro _ _ ⟨rfl, rfl⟩
        go_wp2_with fail
        refine (HV1.out _).mono ?_
        rintro _ _ ⟨rfl, rfl⟩
        go_wp2_with fail
        refine (H3.out H31.out _ HG.out).mono ?_
        rintro _ _ ⟨rfl, rfl⟩
        go_wp2_with fail
        refine (HV7.out _).mono ?_
        rintro _ _ ⟨rfl, rfl⟩
        go_wp2_with fail
        refine (H4.out H41.out _ HG.out).mono ?_
        rintro _ _ ⟨rfl, rfl⟩
        go_wp2_with fail
        refine (HA.out _ HG.out).mono ?_
        rintro _ w9 ⟨rfl, hB9⟩
        have HG9 := Lib.hid (HG.out.below hB9)
        have HB9 := Lib.hid hB9
        clear hB9
        go_wp2_with fail
        go_ret
        exact ⟨rfl, HB9.out⟩

end Go.Proofs.YtgpjadlnfofppaaDoor
