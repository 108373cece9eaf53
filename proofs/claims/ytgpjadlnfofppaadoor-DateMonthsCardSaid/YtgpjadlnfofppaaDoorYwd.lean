/- Layer 6, the program: Of, Parts, Weekday, Last, AddMonths, Months: the walks. -/
import Derived.Test.YtgpjadlnfofppaaDoorYwc
namespace Go.Proofs.YtgpjadlnfofppaaDoor
open Go.RowKit Dat

set_option maxRecDepth 100000 in
set_option maxHeartbeats 8000000 in
theorem pOf (y m d a e : Int) (w : World) (hG : Ground w) (h : ofR y m d = (a, e)) : Calls Tryd.prog 12 #[.int .i64 y, .int .i64 m, .int .i64 d] w fun r w' => r = .returned (.tuple #[.int .i64 a, .int .i64 e]) ∧ w = w' := by
  unfold ofR at h
  cases ho : okT y m d with
  | false =>
    rw [ho, if_neg (by decide)] at h
    obtain ⟨rfl, rfl⟩ := Prod.mk.inj h
    have HD := Lib.hid (pDate y m d w hG)
    rw [ho] at HD
    clear h ho hG
    go_enter Tryd.func12, Tryd.ntmps12
    go_wp2_with fail
    refine (HD.out).mono ?_
    rintro _ _ ⟨rfl, rfl⟩
    go_wp2_with fail
    go_ret2
    exact ⟨rfl, rfl⟩
  | true =>
    rw [ho, if_pos rfl] at h
    obtain ⟨h1, h2⟩ := Prod.mk.inj h
    subst h2
    have HD := Lib.hid (pDate y m d w hG)
    rw [ho] at HD
    have hok := of_decide_eq_true ho
    have hl := lenI_high y m
    have HA := Lib.hid (pDayOf y m d a w hG (by omega) (by omega) (by omega) (by omega) (by omega) (by omega) h1.symm)
    clear h h1 ho hok hl hG
    go_enter Tryd.func12, Tryd.ntmps12
    go_wp2_with fail
    refine (HD.out).mono ?_
    rintro _ _ ⟨rfl, rfl⟩
    go_wp2_with fail
    refine (HA.out).mono ?_
    rintro _ _ ⟨rfl, rfl⟩
    go_wp2_with fail
    go_ret2
    exact ⟨rfl, rfl⟩

set_option maxRecDepth 100000 in
set_option maxHeartbeats 8000000 in
theorem pParts (d p q s e : Int) (w : World) (hG : Ground w) (h : partsR d = (p, q, s, e)) : Calls Tryd.prog 14 #[.int .i64 d] w fun r w' => r = .returned (.tuple #[.int .i64 p, .int .i64 q, .int .i64 s, .int .i64 e]) ∧ w = w' := by
  unfold partsR at h
  have HV := Lib.hid (pValid d w)
  cases hd : okD d with
  | false =>
    rw [hd, if_neg (by decide)] at h
    rw [hd] at HV
    simp only [Prod.mk.injEq] at h
    obtain ⟨rfl, rfl, rfl, rfl⟩ := h
    clear hd hG
    go_enter Tryd.func14, Tryd.ntmps14
    go_wp2_with fail
    refine (HV.out).mono ?_
    rintro _ _ ⟨rfl, rfl⟩
    go_wp2_with fail
    exact bodyPost_ret (v := .tuple #[.int .i64 0, .int .i64 0, .int .i64 0, .int .i64 13]) (by simp [results, Tryd.results14, go_sem]) rfl ⟨rfl, rfl⟩
  | true =>
    rw [hd, if_pos rfl] at h
    rw [hd] at HV
    simp only [Prod.mk.injEq] at h
    obtain ⟨h1, h2, h3, rfl⟩ := h
    have HA := Lib.hid (pDateOf d p q s w hG hd h1.symm h2.symm h3.symm)
    clear hd hG h1 h2 h3
    go_enter Tryd.func14, Tryd.ntmps14
    go_wp2_with fail
    refine (HV.out).mono ?_
    rintro _ _ ⟨rfl, rfl⟩
    go_wp2_with fail
    refine (HA.out).mono ?_
    rintro _ _ ⟨rfl, rfl⟩
    go_wp2_with fail
    exact bodyPost_ret (v := .tuple #[.int .i64 p, .int .i64 q, .int .i64 s, .int .i64 0]) (by simp [results, Tryd.results14, go_sem]) rfl ⟨rfl, rfl⟩

set_option maxRecDepth 100000 in
set_option maxHeartbeats 8000000 in
theorem pWd (d a e : Int) (w : World) (hG : Ground w) (h : wdR d = (a, e)) : Calls Tryd.prog 16 #[.int .i64 d] w fun r w' => r = .returned (.tuple #[.int .i64 a, .int .i64 e]) ∧ w = w' := by
  unfold wdR at h
  have HV := Lib.hid (pValid d w)
  have _ := hG
  cases hd : okD d with
  | false =>
    rw [hd, if_neg (by decide)] at h
    rw [hd] at HV
    obtain ⟨rfl, rfl⟩ := Prod.mk.inj h
    clear h hd hG
    go_enter Tryd.func16, Tryd.ntmps16
    go_wp2_with fail
    refine (HV.out).mono ?_
    rintro _ _ ⟨rfl, rfl⟩
    go_wp2_with fail
    go_ret2
    exact ⟨rfl, rfl⟩
  | true =>
    rw [hd, if_pos rfl] at h
    rw [hd] at HV
    obtain ⟨h1, h2⟩ := Prod.mk.inj h
    subst h2
    obtain ⟨d1, d2⟩ := okD_iff.1 hd
    have HR := Lib.hid h1
    clear h h1 hd hG
    go_enter Tryd.func16, Tryd.ntmps16
    go_wp2_with fail
    refine (HV.out).mono ?_
    rintro _ _ ⟨rfl, rfl⟩
    go_wp2_with fail
    go_ret2
    exact ⟨by rw [← HR.out]; rfl, rfl⟩

set_option maxRecDepth 100000 in
set_option maxHeartbeats 8000000 in
theorem pLast (d a e : Int) (w : World) (hG : Ground w) (h : lastR d = (a, e)) : Calls Tryd.prog 18 #[.int .i64 d] w fun r w' => r = .returned (.tuple #[.int .i64 a, .int .i64 e]) ∧ w = w' := by
  unfold lastR at h
  have HV := Lib.hid (pValid d w)
  cases hd : okD d with
  | false =>
    rw [hd, if_neg (by decide)] at h
    rw [hd] at HV
    obtain ⟨rfl, rfl⟩ := Prod.mk.inj h
    clear h hd hG
    go_enter Tryd.func18, Tryd.ntmps18
    go_wp2_with fail
    refine (HV.out).mono ?_
    rintro _ _ ⟨rfl, rfl⟩
    go_wp2_with fail
    go_ret2
    exact ⟨rfl, rfl⟩
  | true =>
    rw [hd, if_pos rfl] at h
    rw [hd] at HV
    obtain ⟨h1, h2⟩ := Prod.mk.inj h
    subst h2
    obtain ⟨Y, M, D, hY, hM, hD, y1, y2, m1, m2, e1, e2, _, _⟩ := parts_of hd
    have HDO := Lib.hid (pDateOf d Y M D w hG hd hY hM hD)
    have hl := last_is (ix d)
    rw [← hY, ← hM, h1] at hl
    obtain ⟨L, hL⟩ : ∃ L, L = lenI Y M := ⟨_, rfl⟩
    have hl1 := lenI_low Y M
    have hl2 := lenI_high Y M
    rw [← hL] at hl hl1 hl2
    have HLE := Lib.hid (pLen Y M L w hG m1 m2 hL)
    have HDY := Lib.hid (pDayOf Y M L a w hG (by omega) (by omega) m1 m2 (by omega) hl2 hl.symm)
    clear h h1 hd hG hY hM hD hl hL
    go_enter Tryd.func18, Tryd.ntmps18
    go_wp2_with fail
    refine (HV.out).mono ?_
    rintro _ _ ⟨rfl, rfl⟩
    go_wp2_with fail
    refine (HDO.out).mono ?_
    rintro _ _ ⟨rfl, rfl⟩
    go_wp2_with fail
    refine (HLE.out).mono ?_
    rintro _ _ ⟨rfl, rfl⟩
    go_wp2_with fail
    refine (HDY.out).mono ?_
    rintro _ _ ⟨rfl, rfl⟩
    go_wp2_with fail
    go_ret2
    exact ⟨rfl, rfl⟩

set_option maxRecDepth 100000 in
set_option maxHeartbeats 8000000 in
theorem pAdd (d n a e : Int) (w : World) (hG : Ground w) (h : addR d n = (a, e)) : Calls Tryd.prog 23 #[.int .i64 d, .int .i64 n] w fun r w' => r = .returned (.tuple #[.int .i64 a, .int .i64 e]) ∧ w = w' := by
  have HV := Lib.hid (pValid d w)
  cases hd : okD d with
  | false =>
    unfold addR at h
    rw [hd, if_neg (by decide)] at h
    rw [hd] at HV
    obtain ⟨rfl, rfl⟩ := Prod.mk.inj h
    clear h hd hG
    go_enter Tryd.func23, Tryd.ntmps23
    go_wp2_with fail
    refine (HV.out).mono ?_
    rintro _ _ ⟨rfl, rfl⟩
    go_wp2_with fail
    go_ret2
    exact ⟨rfl, rfl⟩
  | true =>
    rw [hd] at HV
    by_cases n1 : n < -4800
    · unfold addR at h
      rw [hd, if_pos rfl, if_pos (Or.inl n1)] at h
      obtain ⟨rfl, rfl⟩ := Prod.mk.inj h
      clear h hd hG
      go_enter Tryd.func23, Tryd.ntmps23
      go_wp2_with fail
      refine (HV.out).mono ?_
      rintro _ _ ⟨rfl, rfl⟩
      go_wp2_with fail
      go_ret2
      exact ⟨rfl, rfl⟩
    by_cases n2 : 4800 < n
    · unfold addR at h
      rw [hd, if_pos rfl, if_pos (Or.inr n2)] at h
      obtain ⟨rfl, rfl⟩ := Prod.mk.inj h
      clear h hd hG
      go_enter Tryd.func23, Tryd.ntmps23
      go_wp2_with fail
      refine (HV.out).mono ?_
      rintro _ _ ⟨rfl, rfl⟩
      go_wp2_with fail
      go_ret2
      exact ⟨rfl, rfl⟩
    rw [shI_addR hd (by omega) (by omega)] at h
    obtain ⟨s, hs⟩ : ∃ s, s = shI (ix d) n := ⟨_, rfl⟩
    have HSH := Lib.hid (pShift d n s w hG hd (by omega) (by omega) hs)
    rw [← hs] at h
    have HV2 := Lib.hid (pValid s w)
    cases ho : okD s with
    | false =>
      rw [ho, if_neg (by decide)] at h
      rw [ho] at HV2
      obtain ⟨rfl, rfl⟩ := Prod.mk.inj h
      clear h hd hG hs ho
      go_enter Tryd.func23, Tryd.ntmps23
      go_wp2_with fail
      refine (HV.out).mono ?_
      rintro _ _ ⟨rfl, rfl⟩
      go_wp2_with fail
      refine (HSH.out).mono ?_
      rintro _ _ ⟨rfl, rfl⟩
      go_wp2_with fail
      refine (HV2.out).mono ?_
      rintro _ _ ⟨rfl, rfl⟩
      go_wp2_with fail
      go_ret2
      exact ⟨rfl, rfl⟩
    | true =>
      rw [ho, if_pos rfl] at h
      rw [ho] at HV2
      obtain ⟨rfl, rfl⟩ := Prod.mk.inj h
      clear h hd hG hs ho
      go_enter Tryd.func23, Tryd.ntmps23
      go_wp2_with fail
      refine (HV.out).mono ?_
      rintro _ _ ⟨rfl, rfl⟩
      go_wp2_with fail
      refine (HSH.out).mono ?_
      rintro _ _ ⟨rfl, rfl⟩
      go_wp2_with fail
      refine (HV2.out).mono ?_
      rintro _ _ ⟨rfl, rfl⟩
      go_wp2_with fail
      go_ret2
      exact ⟨rfl, rfl⟩

set_option maxRecDepth 100000 in
set_option maxHeartbeats 8000000 in
theorem pMon (a b v e : Int) (w : World) (hG : Ground w) (h : monR a b = (v, e)) : Calls Tryd.prog 25 #[.int .i64 a, .int .i64 b] w fun r w' => r = .returned (.tuple #[.int .i64 v, .int .i64 e]) ∧ w = w' := by
  have HA := Lib.hid (pValid a w)
  have HB := Lib.hid (pValid b w)
  cases ha : okD a with
  | false =>
    unfold monR at h
    rw [if_neg (fun g => by rw [ha] at g; exact absurd g.1 (by decide))] at h
    rw [ha] at HA
    obtain ⟨rfl, rfl⟩ := Prod.mk.inj h
    clear h ha hG HB
    go_enter Tryd.func25, Tryd.ntmps25
    go_wp2_with fail
    refine (HA.out).mono ?_
    rintro _ _ ⟨rfl, rfl⟩
    go_wp2_with fail
    go_ret2
    exact ⟨rfl, rfl⟩
  | true =>
    rw [ha] at HA
    cases hb : okD b with
    | false =>
      unfold monR at h
      rw [if_neg (fun g => by rw [hb] at g; exact absurd g.2 (by decide))] at h
      rw [hb] at HB
      obtain ⟨rfl, rfl⟩ := Prod.mk.inj h
      clear h ha hb hG
      go_enter Tryd.func25, Tryd.ntmps25
      go_wp2_with fail
      refine (HA.out).mono ?_
      rintro _ _ ⟨rfl, rfl⟩
      go_wp2_with fail
      refine (HB.out).mono ?_
      rintro _ _ ⟨rfl, rfl⟩
      go_wp2_with fail
      go_ret2
      exact ⟨rfl, rfl⟩
    | true =>
      rw [hb] at HB
      unfold monR at h
      rw [if_pos ⟨ha, hb⟩] at h
      by_cases hab : b < a
      · rw [if_neg (by omega)] at h
        obtain ⟨h1, h2⟩ := Prod.mk.inj h
        subst h2
        have hm := months_sh hb ha (by omega)
        obtain ⟨k, hk⟩ : ∃ k : Int, k = months (ix b) (ix a) := ⟨_, rfl⟩
        have hk1 : 0 ≤ k := by omega
        have hk2 : k ≤ 4000 := by
          have := mo_small (ix_is ha).2
          have := mo_small (ix_is hb).2
          split at hm <;> omega
        have HW := Lib.hid (pWhole b a k w hG hb ha (by omega) hk)
        have HR := Lib.hid (show v = -k by rw [← h1, hk])
        clear h h1 ha hb hG hm hk
        go_enter Tryd.func25, Tryd.ntmps25
        go_wp2_with fail
        refine (HA.out).mono ?_
        rintro _ _ ⟨rfl, rfl⟩
        go_wp2_with fail
        refine (HB.out).mono ?_
        rintro _ _ ⟨rfl, rfl⟩
        go_wp2_with fail
        refine (HW.out).mono ?_
        rintro _ _ ⟨rfl, rfl⟩
        go_wp2_with fail
        go_ret2
        exact ⟨by rw [HR.out]; rfl, rfl⟩
      · rw [if_pos (by omega)] at h
        obtain ⟨h1, h2⟩ := Prod.mk.inj h
        subst h2
        have HW := Lib.hid (pWhole a b v w hG ha hb (by omega) h1.symm)
        clear h h1 ha hb hG
        go_enter Tryd.func25, Tryd.ntmps25
        go_wp2_with fail
        refine (HA.out).mono ?_
        rintro _ _ ⟨rfl, rfl⟩
        go_wp2_with fail
        refine (HB.out).mono ?_
        rintro _ _ ⟨rfl, rfl⟩
        go_wp2_with fail
        refine (HW.out).mono ?_
        rintro _ _ ⟨rfl, rfl⟩
        go_wp2_with fail
        go_ret2
        exact ⟨rfl, rfl⟩

end Go.Proofs.YtgpjadlnfofppaaDoor
