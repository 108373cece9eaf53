/- Layer 6, the law of P6.7: DateRoundTrip: the walk. -/
import Derived.Test.YtgpjadlnfofppaaDoorYlm
namespace Go.Proofs.YtgpjadlnfofppaaDoor
open Go.RowKit Dat

set_option maxRecDepth 100000 in
set_option maxHeartbeats 16000000 in
theorem ldr_any (a b : Int) (s : ByteArray) (w : World) (hG : Ground w) : Calls Tryd.prog 11 #[.int .i64 a, .int .i64 b, .string s] w fun e w' => e = .returned (.bool true) ∧ Below w.heap.size w w' := by
  have HA := Lib.hid (fun w (hG : Ground w) => awake_any w hG)
  have HVA := Lib.hid (fun w => lValid a w)
  have HVB := Lib.hid (fun w => lValid b w)
  have HG := Lib.hid hG
  by_cases hs : 100 < s.size
  · have hs' : (100 : Int) < (s.size : Int) := by omega
    clear hG
    go_enter Tryd.func11, Tryd.ntmps11
    go_wp2_with fail
    refine (HA.out _ HG.out).mono ?_
    rintro _ w1 ⟨rfl, hB1⟩
    have HG1 := Lib.hid (HG.out.below hB1)
    have HB1 := Lib.hid hB1
    clear hB1
    go_wp2_with fail
    go_ret
    exact ⟨rfl, HB1.out⟩
  have hs' : ¬ (100 : Int) < (s.size : Int) := by omega
  clear hs
  obtain ⟨d, e, h1⟩ : ∃ d e, parseR s = (d, e) := ⟨_, _, rfl⟩
  have H1 := Lib.hid (fun w (hG : Ground w) => pParse s d e w hG h1)
  have hcase : (e = 0 ∧ printR d = (s, 0)) ∨ (d = 0 ∧ e = 3) ∨ (d = 0 ∧ e = 13) := by
    by_cases h0 : e = 0
    · subst h0; exact Or.inl ⟨rfl, parse_print h1⟩
    · obtain ⟨g1, g2 | g2⟩ := parse_fails h1 h0
      · exact Or.inr (Or.inl ⟨g1, g2⟩)
      · exact Or.inr (Or.inr ⟨g1, g2⟩)
  clear h1
  rcases hcase with ⟨rfl, hp⟩ | ⟨rfl, rfl⟩ | ⟨rfl, rfl⟩
  · have HP := Lib.hid (fun w (hG : Ground w) => pPrint d s 0 w hG hp)
    clear hp
    cases ha : okD a
    case false =>
      rw [ha] at HVA
      clear hG ha HVB
      go_enter Tryd.func11, Tryd.ntmps11
      go_wp2_with fail
      refine (H1.out _ HG.out).mono ?_
      rintro _ w2 ⟨rfl, hB2⟩
      have HG2 := Lib.hid (HG.out.below hB2)
      have HB2 := Lib.hid hB2
      clear hB2
      go_wp2_with fail
      refine (HP.out _ HG2.out).mono ?_
      rintro _ w3 ⟨rfl, hB3⟩
      have HG3 := Lib.hid (HG2.out.below hB3)
      have HB3 := Lib.hid (HB2.out.trans (hB3.mono HB2.out.size))
      clear hB3
      go_wp2_with fail
      refine (HVA.out _).mono ?_
      rintro _ _ ⟨rfl, rfl⟩
      go_wp2_with fail
      refine (HA.out _ HG3.out).mono ?_
      rintro _ w4 ⟨rfl, hB4⟩
      have HG4 := Lib.hid (HG3.out.below hB4)
      have HB4 := Lib.hid (HB3.out.trans (hB4.mono HB3.out.size))
      clear hB4
      go_wp2_with fail
      go_ret
      exact ⟨rfl, HB4.out⟩
    case true =>
      rw [ha] at HVA
      cases hb : okD b
      case false =>
        rw [hb] at HVB
        clear hG ha hb
        go_enter Tryd.func11, Tryd.ntmps11
        go_wp2_with fail
        refine (H1.out _ HG.out).mono ?_
        rintro _ w5 ⟨rfl, hB5⟩
        have HG5 := Lib.hid (HG.out.below hB5)
        have HB5 := Lib.hid hB5
        clear hB5
        go_wp2_with fail
        refine (HP.out _ HG5.out).mono ?_
        rintro _ w6 ⟨rfl, hB6⟩
        have HG6 := Lib.hid (HG5.out.below hB6)
        have HB6 := Lib.hid (HB5.out.trans (hB6.mono HB5.out.size))
        clear hB6
        go_wp2_with fail
        refine (HVA.out _).mono ?_
        rintro _ _ ⟨rfl, rfl⟩
        go_wp2_with fail
        refine (HVB.out _).mono ?_
        rintro _ _ ⟨rfl, rfl⟩
        go_wp2_with fail
        refine (HA.out _ HG6.out).mono ?_
        rintro _ w7 ⟨rfl, hB7⟩
        have HG7 := Lib.hid (HG6.out.below hB7)
        have HB7 := Lib.hid (HB6.out.trans (hB7.mono HB6.out.size))
        clear hB7
        go_wp2_with fail
        go_ret
        exact ⟨rfl, HB7.out⟩
      case true =>
        rw [hb] at HVB
        obtain ⟨x, hx⟩ : ∃ x, printR a = (x, 0) := by unfold printR; rw [if_pos ha]; exact ⟨_, rfl⟩
        obtain ⟨y, hy⟩ : ∃ y, printR b = (y, 0) := by unfold printR; rw [if_pos hb]; exact ⟨_, rfl⟩
        have hq := less_days ha hb hx hy
        have H2 := Lib.hid (fun w (hG : Ground w) => pPrint a x 0 w hG hx)
        have H3 := Lib.hid (fun w (hG : Ground w) => pPrint b y 0 w hG hy)
        have H4 := Lib.hid (fun w (hG : Ground w) => pParse x a 0 w hG (print_parse ha hx))
        clear hG ha hb hx hy
        by_cases hlt : a < b
        · have HN := Lib.hid hlt
          rw [decide_eq_true hlt] at hq
          go_enter Tryd.func11, Tryd.ntmps11
          go_wp2_with fail
          refine (H1.out _ HG.out).mono ?_
          rintro _ w8 ⟨rfl, hB8⟩
          have HG8 := Lib.hid (HG.out.below hB8)
          have HB8 := Lib.hid hB8
          clear hB8
          go_wp2_with fail
          refine (HP.out _ HG8.out).mono ?_
          rintro _ w9 ⟨rfl, hB9⟩
          have HG9 := Lib.hid (HG8.out.below hB9)
          have HB9 := Lib.hid (HB8.out.trans (hB9.mono HB8.out.size))
          clear hB9
          go_wp2_with fail
          refine (HVA.out _).mono ?_
          rintro _ _ ⟨rfl, rfl⟩
          go_wp2_with fail
          refine (HVB.out _).mono ?_
          rintro _ _ ⟨rfl, rfl⟩
          go_wp2_with fail
          refine (H2.out _ HG9.out).mono ?_
          rintro _ w10 ⟨rfl, hB10⟩
          have HG10 := Lib.hid (HG9.out.below hB10)
          have HB10 := Lib.hid (HB9.out.trans (hB10.mono HB9.out.size))
          clear hB10
          go_wp2_with fail
          refine (H3.out _ HG10.out).mono ?_
          rintro _ w11 ⟨rfl, hB11⟩
          have HG11 := Lib.hid (HG10.out.below hB11)
          have HB11 := Lib.hid (HB10.out.trans (hB11.mono HB10.out.size))
          clear hB11
          go_wp2_with fail
          refine (H4.out _ HG11.out).mono ?_
          rintro _ w12 ⟨rfl, hB12⟩
          have HG12 := Lib.hid (HG11.out.below hB12)
          have HB12 := Lib.hid (HB11.out.trans (hB12.mono HB11.out.size))
          clear hB12
          go_wp2_with fail
          refine (HA.out _ HG12.out).mono ?_
          rintro _ w13 ⟨rfl, hB13⟩
          have HG13 := Lib.hid (HG12.out.below hB13)
          have HB13 := Lib.hid (HB12.out.trans (hB13.mono HB12.out.size))
          clear hB13
          go_wp2_with fail
          go_ret
          exact ⟨rfl, HB13.out⟩
        · have HN := Lib.hid hlt
          rw [decide_eq_false hlt] at hq
          go_enter Tryd.func11, Tryd.ntmps11
          go_wp2_with fail
          refine (H1.out _ HG.out).mono ?_
          rintro _ w14 ⟨rfl, hB14⟩
          have HG14 := Lib.hid (HG.out.below hB14)
          have HB14 := Lib.hid hB14
          clear hB14
          go_wp2_with fail
          refine (HP.out _ HG14.out).mono ?_
          rintro _ w15 ⟨rfl, hB15⟩
          have HG15 := Lib.hid (HG14.out.below hB15)
          have HB15 := Lib.hid (HB14.out.trans (hB15.mono HB14.out.size))
          clear hB15
          go_wp2_with fail
          refine (HVA.out _).mono ?_
          rintro _ _ ⟨rfl, rfl⟩
          go_wp2_with fail
          refine (HVB.out _).mono ?_
          rintro _ _ ⟨rfl, rfl⟩
          go_wp2_with fail
          refine (H2.out _ HG15.out).mono ?_
          rintro _ w16 ⟨rfl, hB16⟩
          have HG16 := Lib.hid (HG15.out.below hB16)
          have HB16 := Lib.hid (HB15.out.trans (hB16.mono HB15.out.size))
          clear hB16
          go_wp2_with fail
          refine (H3.out _ HG16.out).mono ?_
          rintro _ w17 ⟨rfl, hB17⟩
          have HG17 := Lib.hid (HG16.out.below hB17)
          have HB17 := Lib.hid (HB16.out.trans (hB17.mono HB16.out.size))
          clear hB17
          go_wp2_with fail
          refine (H4.out _ HG17.out).mono ?_
          rintro _ w18 ⟨rfl, hB18⟩
          have HG18 := Lib.hid (HG17.out.below hB18)
          have HB18 := Lib.hid (HB17.out.trans (hB18.mono HB17.out.size))
          clear hB18
          go_wp2_with fail
          refine (HA.out _ HG18.out).mono ?_
          rintro _ w19 ⟨rfl, hB19⟩
          have HG19 := Lib.hid (HG18.out.below hB19)
          have HB19 := Lib.hid (HB18.out.trans (hB19.mono HB18.out.size))
          clear hB19
          go_wp2_with fail
          go_ret
          exact ⟨by show Ending.returned (.bool (!decide (a < b))) = _; rw [show decide (a < b) = false from decide_eq_false (by have := HN.out; omega)]; rfl, HB19.out⟩
  · skip
    cases ha : okD a
    case false =>
      rw [ha] at HVA
      clear hG ha HVB
      go_enter Tryd.func11, Tryd.ntmps11
      go_wp2_with fail
      refine (H1.out _ HG.out).mono ?_
      rintro _ w20 ⟨rfl, hB20⟩
      have HG20 := Lib.hid (HG.out.below hB20)
      have HB20 := Lib.hid hB20
      clear hB20
      go_wp2_with fail
      refine (HVA.out _).mono ?_
      rintro _ _ ⟨rfl, rfl⟩
      go_wp2_with fail
      refine (HA.out _ HG20.out).mono ?_
      rintro _ w21 ⟨rfl, hB21⟩
      have HG21 := Lib.hid (HG20.out.below hB21)
      have HB21 := Lib.hid (HB20.out.trans (hB21.mono HB20.out.size))
      clear hB21
      go_wp2_with fail
      go_ret
      exact ⟨rfl, HB21.out⟩
    case true =>
      rw [ha] at HVA
      cases hb : okD b
      case false =>
        rw [hb] at HVB
        clear hG ha hb
        go_enter Tryd.func11, Tryd.ntmps11
        go_wp2_with fail
        refine (H1.out _ HG.out).mono ?_
        rintro _ w22 ⟨rfl, hB22⟩
        have HG22 := Lib.hid (HG.out.below hB22)
        have HB22 := Lib.hid hB22
        clear hB22
        go_wp2_with fail
        refine (HVA.out _).mono ?_
        rintro _ _ ⟨rfl, rfl⟩
        go_wp2_with fail
        refine (HVB.out _).mono ?_
        rintro _ _ ⟨rfl, rfl⟩
        go_wp2_with fail
        refine (HA.out _ HG22.out).mono ?_
        rintro _ w23 ⟨rfl, hB23⟩
        have HG23 := Lib.hid (HG22.out.below hB23)
        have HB23 := Lib.hid (HB22.out.trans (hB23.mono HB22.out.size))
        clear hB23
        go_wp2_with fail
        go_ret
        exact ⟨rfl, HB23.out⟩
      case true =>
        rw [hb] at HVB
        obtain ⟨x, hx⟩ : ∃ x, printR a = (x, 0) := by unfold printR; rw [if_pos ha]; exact ⟨_, rfl⟩
        obtain ⟨y, hy⟩ : ∃ y, printR b = (y, 0) := by unfold printR; rw [if_pos hb]; exact ⟨_, rfl⟩
        have hq := less_days ha hb hx hy
        have H2 := Lib.hid (fun w (hG : Ground w) => pPrint a x 0 w hG hx)
        have H3 := Lib.hid (fun w (hG : Ground w) => pPrint b y 0 w hG hy)
        have H4 := Lib.hid (fun w (hG : Ground w) => pParse x a 0 w hG (print_parse ha hx))
        clear hG ha hb hx hy
        by_cases hlt : a < b
        · have HN := Lib.hid hlt
          rw [decide_eq_true hlt] at hq
          go_enter Tryd.func11, Tryd.ntmps11
          go_wp2_with fail
          refine (H1.out _ HG.out).mono ?_
          rintro _ w24 ⟨rfl, hB24⟩
          have HG24 := Lib.hid (HG.out.below hB24)
          have HB24 := Lib.hid hB24
          clear hB24
          go_wp2_with fail
          refine (HVA.out _).mono ?_
          rintro _ _ ⟨rfl, rfl⟩
          go_wp2_with fail
          refine (HVB.out _).mono ?_
          rintro _ _ ⟨rfl, rfl⟩
          go_wp2_with fail
          refine (H2.out _ HG24.out).mono ?_
          rintro _ w25 ⟨rfl, hB25⟩
          have HG25 := Lib.hid (HG24.out.below hB25)
          have HB25 := Lib.hid (HB24.out.trans (hB25.mono HB24.out.size))
          clear hB25
          go_wp2_with fail
          refine (H3.out _ HG25.out).mono ?_
          rintro _ w26 ⟨rfl, hB26⟩
          have HG26 := Lib.hid (HG25.out.below hB26)
          have HB26 := Lib.hid (HB25.out.trans (hB26.mono HB25.out.size))
          clear hB26
          go_wp2_with fail
          refine (H4.out _ HG26.out).mono ?_
          rintro _ w27 ⟨rfl, hB27⟩
          have HG27 := Lib.hid (HG26.out.below hB27)
          have HB27 := Lib.hid (HB26.out.trans (hB27.mono HB26.out.size))
          clear hB27
          go_wp2_with fail
          refine (HA.out _ HG27.out).mono ?_
          rintro _ w28 ⟨rfl, hB28⟩
          have HG28 := Lib.hid (HG27.out.below hB28)
          have HB28 := Lib.hid (HB27.out.trans (hB28.mono HB27.out.size))
          clear hB28
          go_wp2_with fail
          go_ret
          exact ⟨rfl, HB28.out⟩
        · have HN := Lib.hid hlt
          rw [decide_eq_false hlt] at hq
          go_enter Tryd.func11, Tryd.ntmps11
          go_wp2_with fail
          refine (H1.out _ HG.out).mono ?_
          rintro _ w29 ⟨rfl, hB29⟩
          have HG29 := Lib.hid (HG.out.below hB29)
          have HB29 := Lib.hid hB29
          clear hB29
          go_wp2_with fail
          refine (HVA.out _).mono ?_
          rintro _ _ ⟨rfl, rfl⟩
          go_wp2_with fail
          refine (HVB.out _).mono ?_
          rintro _ _ ⟨rfl, rfl⟩
          go_wp2_with fail
          refine (H2.out _ HG29.out).mono ?_
          rintro _ w30 ⟨rfl, hB30⟩
          have HG30 := Lib.hid (HG29.out.below hB30)
          have HB30 := Lib.hid (HB29.out.trans (hB30.mono HB29.out.size))
          clear hB30
          go_wp2_with fail
          refine (H3.out _ HG30.out).mono ?_
          rintro _ w31 ⟨rfl, hB31⟩
          have HG31 := Lib.hid (HG30.out.below hB31)
          have HB31 := Lib.hid (HB30.out.trans (hB31.mono HB30.out.size))
          clear hB31
          go_wp2_with fail
          refine (H4.out _ HG31.out).mono ?_
          rintro _ w32 ⟨rfl, hB32⟩
          have HG32 := Lib.hid (HG31.out.below hB32)
          have HB32 := Lib.hid (HB31.out.trans (hB32.mono HB31.out.size))
          clear hB32
          go_wp2_with fail
          refine (HA.out _ HG32.out).mono ?_
          rintro _ w33 ⟨rfl, hB33⟩
          have HG33 := Lib.hid (HG32.out.below hB33)
          have HB33 := Lib.hid (HB32.out.trans (hB33.mono HB32.out.size))
          clear hB33
          go_wp2_with fail
          go_ret
          exact ⟨by show Ending.returned (.bool (!decide (a < b))) = _; rw [show decide (a < b) = false from decide_eq_false (by have := HN.out; omega)]; rfl, HB33.out⟩
  · skip
    cases ha : okD a
    case false =>
      rw [ha] at HVA
      clear hG ha HVB
      go_enter Tryd.func11, Tryd.ntmps11
      go_wp2_with fail
      refine (H1.out _ HG.out).mono ?_
      rintro _ w34 ⟨rfl, hB34⟩
      have HG34 := Lib.hid (HG.out.below hB34)
      have HB34 := Lib.hid hB34
      clear hB34
      go_wp2_with fail
      refine (HVA.out _).mono ?_
      rintro _ _ ⟨rfl, rfl⟩
      go_wp2_with fail
      refine (HA.out _ HG34.out).mono ?_
      rintro _ w35 ⟨rfl, hB35⟩
      have HG35 := Lib.hid (HG34.out.below hB35)
      have HB35 := Lib.hid (HB34.out.trans (hB35.mono HB34.out.size))
      clear hB35
      go_wp2_with fail
      go_ret
      exact ⟨rfl, HB35.out⟩
    case true =>
      rw [ha] at HVA
      cases hb : okD b
      case false =>
        rw [hb] at HVB
        clear hG ha hb
        go_enter Tryd.func11, Tryd.ntmps11
        go_wp2_with fail
        refine (H1.out _ HG.out).mono ?_
        rintro _ w36 ⟨rfl, hB36⟩
        have HG36 := Lib.hid (HG.out.below hB36)
        have HB36 := Lib.hid hB36
        clear hB36
        go_wp2_with fail
        refine (HVA.out _).mono ?_
        rintro _ _ ⟨rfl, rfl⟩
        go_wp2_with fail
        refine (HVB.out _).mono ?_
        rintro _ _ ⟨rfl, rfl⟩
        go_wp2_with fail
        refine (HA.out _ HG36.out).mono ?_
        rintro _ w37 ⟨rfl, hB37⟩
        have HG37 := Lib.hid (HG36.out.below hB37)
        have HB37 := Lib.hid (HB36.out.trans (hB37.mono HB36.out.size))
        clear hB37
        go_wp2_with fail
        go_ret
        exact ⟨rfl, HB37.out⟩
      case true =>
        rw [hb] at HVB
        obtain ⟨x, hx⟩ : ∃ x, printR a = (x, 0) := by unfold printR; rw [if_pos ha]; exact ⟨_, rfl⟩
        obtain ⟨y, hy⟩ : ∃ y, printR b = (y, 0) := by unfold printR; rw [if_pos hb]; exact ⟨_, rfl⟩
        have hq := less_days ha hb hx hy
        have H2 := Lib.hid (fun w (hG : Ground w) => pPrint a x 0 w hG hx)
        have H3 := Lib.hid (fun w (hG : Ground w) => pPrint b y 0 w hG hy)
        have H4 := Lib.hid (fun w (hG : Ground w) => pParse x a 0 w hG (print_parse ha hx))
        clear hG ha hb hx hy
        by_cases hlt : a < b
        · have HN := Lib.hid hlt
          rw [decide_eq_true hlt] at hq
          go_enter Tryd.func11, Tryd.ntmps11
          go_wp2_with fail
          refine (H1.out _ HG.out).mono ?_
          rintro _ w38 ⟨rfl, hB38⟩
          have HG38 := Lib.hid (HG.out.below hB38)
          have HB38 := Lib.hid hB38
          clear hB38
          go_wp2_with fail
          refine (HVA.out _).mono ?_
          rintro _ _ ⟨rfl, rfl⟩
          go_wp2_with fail
          refine (HVB.out _).mono ?_
          rintro _ _ ⟨rfl, rfl⟩
          go_wp2_with fail
          refine (H2.out _ HG38.out).mono ?_
          rintro _ w39 ⟨rfl, hB39⟩
          have HG39 := Lib.hid (HG38.out.below hB39)
          have HB39 := Lib.hid (HB38.out.trans (hB39.mono HB38.out.size))
          clear hB39
          go_wp2_with fail
          refine (H3.out _ HG39.out).mono ?_
          rintro _ w40 ⟨rfl, hB40⟩
          have HG40 := Lib.hid (HG39.out.below hB40)
          have HB40 := Lib.hid (HB39.out.trans (hB40.mono HB39.out.size))
          clear hB40
          go_wp2_with fail
          refine (H4.out _ HG40.out).mono ?_
          rintro _ w41 ⟨rfl, hB41⟩
          have HG41 := Lib.hid (HG40.out.below hB41)
          have HB41 := Lib.hid (HB40.out.trans (hB41.mono HB40.out.size))
          clear hB41
          go_wp2_with fail
          refine (HA.out _ HG41.out).mono ?_
          rintro _ w42 ⟨rfl, hB42⟩
          have HG42 := Lib.hid (HG41.out.below hB42)
          have HB42 := Lib.hid (HB41.out.trans (hB42.mono HB41.out.size))
          clear hB42
          go_wp2_with fail
          go_ret
          exact ⟨rfl, HB42.out⟩
        · have HN := Lib.hid hlt
          rw [decide_eq_false hlt] at hq
          go_enter Tryd.func11, Tryd.ntmps11
          go_wp2_with fail
          refine (H1.out _ HG.out).mono ?_
          rintro _ w43 ⟨rfl, hB43⟩
          have HG43 := Lib.hid (HG.out.below hB43)
          have HB43 := Lib.hid hB43
          clear hB43
          go_wp2_with fail
          refine (HVA.out _).mono ?_
          rintro _ _ ⟨rfl, rfl⟩
          go_wp2_with fail
          refine (HVB.out _).mono ?_
          rintro _ _ ⟨rfl, rfl⟩
          go_wp2_with fail
          refine (H2.out _ HG43.out).mono ?_
          rintro _ w44 ⟨rfl, hB44⟩
          have HG44 := Lib.hid (HG43.out.below hB44)
          have HB44 := Lib.hid (HB43.out.trans (hB44.mono HB43.out.size))
          clear hB44
          go_wp2_with fail
          refine (H3.out _ HG44.out).mono ?_
          rintro _ w45 ⟨rfl, hB45⟩
          have HG45 := Lib.hid (HG44.out.below hB45)
          have HB45 := Lib.hid (HB44.out.trans (hB45.mono HB44.out.size))
          clear hB45
          go_wp2_with fail
          refine (H4.out _ HG45.out).mono ?_
          rintro _ w46 ⟨rfl, hB46⟩
          have HG46 := Lib.hid (HG45.out.below hB46)
          have HB46 := Lib.hid (HB45.out.trans (hB46.mono HB45.out.size))
          clear hB46
          go_wp2_with fail
          refine (HA.out _ HG46.out).mono ?_
          rintro _ w47 ⟨rfl, hB47⟩
          have HG47 := Lib.hid (HG46.out.below hB47)
          have HB47 := Lib.hid (HB46.out.trans (hB47.mono HB46.out.size))
          clear hB47
          go_wp2_with fail
          go_ret
          exact ⟨by show Ending.returned (.bool (!decide (a < b))) = _; rw [show decide (a < b) = false from decide_eq_false (by have := HN.out; omega)]; rfl, HB47.out⟩

end Go.Proofs.YtgpjadlnfofppaaDoor
