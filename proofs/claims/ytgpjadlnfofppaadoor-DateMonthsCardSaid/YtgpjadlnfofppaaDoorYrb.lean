/- Layer 6, the reference implementation: Of, Weekday, Last, AddMonths, Months: the walks. -/
import Derived.Test.YtgpjadlnfofppaaDoorYra
namespace Go.Proofs.YtgpjadlnfofppaaDoor
open Go.RowKit Dat

set_option maxRecDepth 100000 in
set_option maxHeartbeats 8000000 in
theorem rOf (y m d a e : Int) (w : World) (h : ofR y m d = (a, e)) : Calls Tryd.prog 13 #[.int .i64 y, .int .i64 m, .int .i64 d] w fun r w' => r = .returned (.tuple #[.int .i64 a, .int .i64 e]) ∧ w = w' := by
  unfold ofR at h
  by_cases c0 : y < 1900
  case pos =>
    rw [if_neg (fun g => by have := of_decide_eq_true g; omega)] at h
    obtain ⟨rfl, rfl⟩ := Prod.mk.inj h
    clear h
    go_enter Tryd.func13, Tryd.ntmps13
    go_wp2_with fail
    go_ret2
    exact ⟨rfl, rfl⟩
  by_cases c1 : 2199 < y
  case pos =>
    rw [if_neg (fun g => by have := of_decide_eq_true g; omega)] at h
    obtain ⟨rfl, rfl⟩ := Prod.mk.inj h
    clear h
    go_enter Tryd.func13, Tryd.ntmps13
    go_wp2_with fail
    go_ret2
    exact ⟨rfl, rfl⟩
  by_cases c2 : m < 1
  case pos =>
    rw [if_neg (fun g => by have := of_decide_eq_true g; omega)] at h
    obtain ⟨rfl, rfl⟩ := Prod.mk.inj h
    clear h
    go_enter Tryd.func13, Tryd.ntmps13
    go_wp2_with fail
    go_ret2
    exact ⟨rfl, rfl⟩
  by_cases c3 : 12 < m
  case pos =>
    rw [if_neg (fun g => by have := of_decide_eq_true g; omega)] at h
    obtain ⟨rfl, rfl⟩ := Prod.mk.inj h
    clear h
    go_enter Tryd.func13, Tryd.ntmps13
    go_wp2_with fail
    go_ret2
    exact ⟨rfl, rfl⟩
  by_cases c4 : d < 1
  case pos =>
    rw [if_neg (fun g => by have := of_decide_eq_true g; omega)] at h
    obtain ⟨rfl, rfl⟩ := Prod.mk.inj h
    clear h
    go_enter Tryd.func13, Tryd.ntmps13
    go_wp2_with fail
    go_ret2
    exact ⟨rfl, rfl⟩
  obtain ⟨L, hL⟩ : ∃ L, L = lenI y m := ⟨_, rfl⟩
  have HC := Lib.hid (rLen y m L w (by omega) (by omega) hL)
  by_cases c5 : L < d
  · rw [if_neg (fun g => by have := of_decide_eq_true g; omega)] at h
    obtain ⟨rfl, rfl⟩ := Prod.mk.inj h
    clear h hL
    go_enter Tryd.func13, Tryd.ntmps13
    go_wp2_with fail
    refine (HC.out).mono ?_
    rintro _ _ ⟨rfl, rfl⟩
    go_wp2_with fail
    go_ret2
    exact ⟨rfl, rfl⟩
  rw [if_pos (show okT y m d = true from decide_eq_true ⟨by omega, by omega, by omega, by omega, by omega, by omega⟩)] at h
  obtain ⟨h1, h2⟩ := Prod.mk.inj h
  subst h2
  have hl2 : L ≤ 31 := by rw [hL]; exact lenI_high y m
  have HR := Lib.hid h1
  have HLP := Lib.hid (fun k => rLeap k w)
  have HLE := Lib.hid (fun k (a : 1 ≤ k) (b : k ≤ 12) => rLen y k (lenI y k) w a b rfl)
  have h00 : nyI 1900 = -25567 := by decide
  have H0 := Lib.hid h00
  clear h h1 hL h00
  go_enter Tryd.func13, Tryd.ntmps13
  go_wp2_with fail
  refine (HC.out).mono ?_
  rintro _ _ ⟨rfl, rfl⟩
  go_wp2_with fail
  go_loop [8, 9] (fun nv yv => ∃ k x : Int, 1900 ≤ k ∧ k ≤ y ∧ -30000 ≤ x ∧ x ≤ 90000 ∧ nv = .int .i64 x ∧ yv = .int .i64 k ∧ Hid (x = nyI k + d - 1)) (fun _ yv => (y - intOf yv).toNat)
  case atStart => exact ⟨1900, -25567 + d - 1, by omega, by omega, by omega, by omega, rfl, rfl, Lib.hid (by rw [H0.out])⟩
  case round =>
    obtain ⟨k, x, hk1, hk2, hx1, hx2, rfl, rfl, HX⟩ := hrel
    by_cases hlt : k < y
    · have hs := nyI_succ (y := k) (by omega)
      have HP := Lib.hid (HLP.out k)
      have hb : nyI k ≤ 83641 := by unfold nyI lpsI; omega
      have hxx := HX.out
      have hxl : x + 366 ≤ 90000 := by omega
      clear hb
      cases hl : lpB k
      case false =>
        rw [hl] at HP hs
        have HX2 := Lib.hid (show x + 365 = nyI (k + 1) + d - 1 by rw [hxx, hs]; simp; omega)
        clear hl hs hxx
        go_wp2_with fail
        refine (HP.out).mono ?_
        rintro _ _ ⟨rfl, rfl⟩
        go_wp2_with fail
        go_round
        case rel => exact ⟨k + 1, x + 365, by omega, by omega, by omega, by omega, rfl, rfl, HX2⟩
        case measure => simp [intOf]; omega
      case true =>
        rw [hl] at HP hs
        have HX2 := Lib.hid (show x + 365 + 1 = nyI (k + 1) + d - 1 by rw [hxx, hs]; simp; omega)
        clear hl hs hxx
        go_wp2_with fail
        refine (HP.out).mono ?_
        rintro _ _ ⟨rfl, rfl⟩
        go_wp2_with fail
        go_round
        case rel => exact ⟨k + 1, x + 365 + 1, by omega, by omega, by omega, by omega, rfl, rfl, HX2⟩
        case measure => simp [intOf]; omega
    · obtain rfl : k = y := by omega
      obtain ⟨v, hv⟩ : ∃ v, nyI k = v := ⟨_, rfl⟩
      have HV := Lib.hid hv
      have hvb : v ≤ 84000 := by rw [← hv]; unfold nyI lpsI; omega
      have hvc : -25567 ≤ v := by rw [← hv]; unfold nyI lpsI; omega
      rw [hv] at HX
      clear hv HLP H0 hk1 hk2
      go_wp2_with fail
      go_loop [8, 10] (fun xv mv => ∃ i x : Int, 1 ≤ i ∧ i ≤ m ∧ -30000 ≤ x ∧ x ≤ 90000 ∧ mv = .int .i64 i ∧ xv = .int .i64 x ∧ Hid (x = v + d - 1 + cumI k i)) (fun _ mv => (20 - intOf mv).toNat)
      case atStart => exact ⟨1, x, by omega, by omega, by omega, by omega, rfl, rfl, Lib.hid (by rw [cumI_one, HX.out]; omega)⟩
      case round =>
        clear HX hx1 hx2 hlt
        obtain ⟨i, x, hi1, hi2, hx1, hx2, rfl, rfl, HX⟩ := hrel
        by_cases hlt : i < m
        · have hs := cumI_succ k hi1 (by omega)
          have hc := cumI_high k hi1 (by omega)
          have hc0 := cumI_low k i
          obtain ⟨l, hL⟩ : ∃ l, lenI k i = l := ⟨_, rfl⟩
          have HI := Lib.hid (HLE.out i hi1 (by omega))
          have hl1 := lenI_low k i
          rw [hL] at hs HI hc hl1
          have HX2 := Lib.hid (show x + l = v + d - 1 + cumI k (i + 1) by rw [hs, HX.out]; omega)
          have hxl : x + l ≤ 90000 := by have := HX.out; split at hc <;> omega
          clear hs hL hc hc0 HX
          go_wp2_with fail
          refine (HI.out).mono ?_
          rintro _ _ ⟨rfl, rfl⟩
          go_wp2_with fail
          go_round
          case rel => exact ⟨i + 1, x + l, by omega, by omega, by omega, by omega, rfl, rfl, HX2⟩
          case measure => simp [intOf]; omega
        · obtain rfl : i = m := by omega
          go_wp2_with fail
          go_ret2
          exact ⟨by rw [← HR.out, HV.out, show v + cumI k i + d - 1 = x by rw [HX.out]; omega]; rfl, rfl⟩

set_option maxRecDepth 100000 in
set_option maxHeartbeats 8000000 in
theorem rWd (d a e : Int) (w : World) (h : wdR d = (a, e)) : Calls Tryd.prog 17 #[.int .i64 d] w fun r w' => r = .returned (.tuple #[.int .i64 a, .int .i64 e]) ∧ w = w' := by
  unfold wdR at h
  have HV := Lib.hid (rCheck d w)
  cases hd : okD d with
  | false =>
    rw [hd, if_neg (by decide)] at h
    rw [errD_bad hd] at HV
    obtain ⟨rfl, rfl⟩ := Prod.mk.inj h
    clear h hd
    go_enter Tryd.func17, Tryd.ntmps17
    go_wp2_with fail
    refine (HV.out).mono ?_
    rintro _ _ ⟨rfl, rfl⟩
    go_wp2_with fail
    go_ret2
    exact ⟨rfl, rfl⟩
  | true =>
    rw [hd, if_pos rfl] at h
    rw [errD_ok hd] at HV
    obtain ⟨h1, h2⟩ := Prod.mk.inj h
    subst h2
    obtain ⟨d1, d2⟩ := okD_iff.1 hd
    have HR := Lib.hid h1
    clear h h1 hd
    go_enter Tryd.func17, Tryd.ntmps17
    go_wp2_with fail
    refine (HV.out).mono ?_
    rintro _ _ ⟨rfl, rfl⟩
    go_wp2_with fail
    go_ret2
    exact ⟨by rw [← HR.out]; rfl, rfl⟩

/-- the date that Parts returns -/
theorem partsR_ok {d Y M D : Int} (hd : okD d = true) (hY : Y = yr (ix d)) (hM : M = mn (ix d)) (hD : D = dy (ix d)) : partsR d = (Y, M, D, 0) := by
  unfold partsR
  rw [if_pos hd, hY, hM, hD]
theorem partsR_bad {d : Int} (hd : okD d = false) : partsR d = (0, 0, 0, 13) := by
  unfold partsR
  rw [hd]
  rfl

set_option maxRecDepth 100000 in
set_option maxHeartbeats 8000000 in
theorem rLast (d a e : Int) (w : World) (h : lastR d = (a, e)) : Calls Tryd.prog 19 #[.int .i64 d] w fun r w' => r = .returned (.tuple #[.int .i64 a, .int .i64 e]) ∧ w = w' := by
  unfold lastR at h
  cases hd : okD d with
  | false =>
    rw [hd, if_neg (by decide)] at h
    have HV := Lib.hid (rParts d 0 0 0 13 w (partsR_bad hd))
    obtain ⟨rfl, rfl⟩ := Prod.mk.inj h
    clear h hd
    go_enter Tryd.func19, Tryd.ntmps19
    go_wp2_with fail
    refine (HV.out).mono ?_
    rintro _ _ ⟨rfl, rfl⟩
    go_wp2_with fail
    go_ret2
    exact ⟨rfl, rfl⟩
  | true =>
    rw [hd, if_pos rfl] at h
    obtain ⟨h1, h2⟩ := Prod.mk.inj h
    subst h2
    obtain ⟨Y, M, D, hY, hM, hD, y1, y2, m1, m2, e1, e2, _, _⟩ := parts_of hd
    have HV := Lib.hid (rParts d Y M D 0 w (partsR_ok hd hY hM hD))
    obtain ⟨d1, d2⟩ := okD_iff.1 hd
    have hx := (ix_is hd).1
    have hl := last_is (ix d)
    have hi := day_is (ix d)
    rw [← hY, ← hM, h1] at hl
    rw [← hY, ← hM, ← hD, hx] at hi
    obtain ⟨L, hL⟩ : ∃ L, L = lenI Y M := ⟨_, rfl⟩
    have hl1 := lenI_low Y M
    have hl2 := lenI_high Y M
    rw [← hL] at hl hl1 hl2
    have HLE := Lib.hid (rLen Y M L w m1 m2 hL)
    have HR := Lib.hid (show a = d + (L - D) by omega)
    clear h h1 hd hx hi hY hM hD hl hL
    go_enter Tryd.func19, Tryd.ntmps19
    go_wp2_with fail
    refine (HV.out).mono ?_
    rintro _ _ ⟨rfl, rfl⟩
    go_wp2_with fail
    refine (HLE.out).mono ?_
    rintro _ _ ⟨rfl, rfl⟩
    go_wp2_with fail
    go_ret2
    exact ⟨by rw [HR.out]; rfl, rfl⟩

/-- the shifted day as a date -/
theorem addR_of {d n Y M D : Int} (hd : okD d = true) (n1 : -4800 ≤ n) (n2 : n ≤ 4800) (hD : D = dy (ix d)) (e1 : 1 ≤ D) (hmo : 12 * Y + M - 1 = 22800 + mo (ix d)) (k1 : 22800 ≤ 12 * Y + M - 1 + n) (k2 : 12 * Y + M - 1 + n < 26400) :
    addR d n = ofR ((12 * Y + M - 1 + n) / 12) ((12 * Y + M - 1 + n) % 12 + 1) (min D (lenI ((12 * Y + M - 1 + n) / 12) ((12 * Y + M - 1 + n) % 12 + 1))) := by
  have hx := ix_is hd
  have hl1 := lenI_low ((12 * Y + M - 1 + n) / 12) ((12 * Y + M - 1 + n) % 12 + 1)
  obtain ⟨j, hj⟩ : ∃ j : Nat, (mo (ix d) : Int) + n = j := ⟨((mo (ix d) : Int) + n).toNat, by omega⟩
  have e := shI_ok hj
  have h3 := (am_in (ix d) j).2
  have h4 := st_small (k := j + 1) (by omega)
  rw [shI_addR hd n1 n2, if_pos (by rw [okD_iff, e]; omega)]
  unfold ofR
  rw [if_pos (show okT _ _ _ = true from decide_eq_true ⟨by omega, by omega, by omega, by omega, by omega, by omega⟩)]
  unfold shI
  rw [← hmo, ← hD]
theorem addR_out {d n : Int} {K : Int} (hd : okD d = true) (n1 : -4800 ≤ n) (n2 : n ≤ 4800) (hK : K = 22800 + mo (ix d)) (k : K + n < 22800 ∨ 26400 ≤ K + n) : addR d n = (0, 13) := by
  unfold addR
  rw [if_pos hd, if_neg (by omega), if_neg (by omega)]

set_option maxRecDepth 100000 in
set_option maxHeartbeats 8000000 in
theorem rAdd (d n a e : Int) (w : World) (h : addR d n = (a, e)) : Calls Tryd.prog 24 #[.int .i64 d, .int .i64 n] w fun r w' => r = .returned (.tuple #[.int .i64 a, .int .i64 e]) ∧ w = w' := by
  cases hd : okD d with
  | false =>
    unfold addR at h
    rw [hd, if_neg (by decide)] at h
    have HV := Lib.hid (rParts d 0 0 0 13 w (partsR_bad hd))
    obtain ⟨rfl, rfl⟩ := Prod.mk.inj h
    clear h hd
    go_enter Tryd.func24, Tryd.ntmps24
    go_wp2_with fail
    refine (HV.out).mono ?_
    rintro _ _ ⟨rfl, rfl⟩
    go_wp2_with fail
    go_ret2
    exact ⟨rfl, rfl⟩
  | true =>
    obtain ⟨Y, M, D, hY, hM, hD, y1, y2, m1, m2, e1, e2, hmo, _⟩ := parts_of hd
    have HV := Lib.hid (rParts d Y M D 0 w (partsR_ok hd hY hM hD))
    clear hY hM
    by_cases n1 : n < -4800
    · unfold addR at h
      rw [hd, if_pos rfl, if_pos (Or.inl n1)] at h
      obtain ⟨rfl, rfl⟩ := Prod.mk.inj h
      clear h hd hD hmo
      go_enter Tryd.func24, Tryd.ntmps24
      go_wp2_with fail
      refine (HV.out).mono ?_
      rintro _ _ ⟨rfl, rfl⟩
      go_wp2_with fail
      go_ret2
      exact ⟨rfl, rfl⟩
    by_cases n2 : 4800 < n
    · unfold addR at h
      rw [hd, if_pos rfl, if_pos (Or.inr n2)] at h
      obtain ⟨rfl, rfl⟩ := Prod.mk.inj h
      clear h hd hD hmo
      go_enter Tryd.func24, Tryd.ntmps24
      go_wp2_with fail
      refine (HV.out).mono ?_
      rintro _ _ ⟨rfl, rfl⟩
      go_wp2_with fail
      go_ret2
      exact ⟨rfl, rfl⟩
    by_cases kinl : 12 * Y + M - 1 + n < 22800
    · rw [addR_out hd (by omega) (by omega) hmo (Or.inl kinl)] at h
      obtain ⟨rfl, rfl⟩ := Prod.mk.inj h
      clear h hd hD hmo
      go_enter Tryd.func24, Tryd.ntmps24
      go_wp2_with fail
      refine (HV.out).mono ?_
      rintro _ _ ⟨rfl, rfl⟩
      go_wp2_with fail
      go_ret2
      exact ⟨rfl, rfl⟩
    by_cases kinr : 26400 ≤ 12 * Y + M - 1 + n
    · rw [addR_out hd (by omega) (by omega) hmo (Or.inr kinr)] at h
      obtain ⟨rfl, rfl⟩ := Prod.mk.inj h
      clear h hd hD hmo
      go_enter Tryd.func24, Tryd.ntmps24
      go_wp2_with fail
      refine (HV.out).mono ?_
      rintro _ _ ⟨rfl, rfl⟩
      go_wp2_with fail
      go_ret2
      exact ⟨rfl, rfl⟩
    rw [addR_of hd (by omega) (by omega) hD e1 hmo (by omega) (by omega)] at h
    obtain ⟨L, hL⟩ : ∃ L, L = lenI ((12 * Y + M - 1 + n) / 12) ((12 * Y + M - 1 + n) % 12 + 1) := ⟨_, rfl⟩
    have HLE := Lib.hid (rLen ((12 * Y + M - 1 + n) / 12) ((12 * Y + M - 1 + n) % 12 + 1) L w (by omega) (by omega) hL)
    rw [← hL] at h
    have HOF := Lib.hid (rOf ((12 * Y + M - 1 + n) / 12) ((12 * Y + M - 1 + n) % 12 + 1) (min D L) a e w h)
    clear h hL hD hmo hd
    by_cases hq : L < D
    · rw [show min D L = L by omega] at HOF
      go_enter Tryd.func24, Tryd.ntmps24
      go_wp2_with fail
      refine (HV.out).mono ?_
      rintro _ _ ⟨rfl, rfl⟩
      go_wp2_with fail
      refine (HLE.out).mono ?_
      rintro _ _ ⟨rfl, rfl⟩
      go_wp2_with fail
      all_goals
        first
        | (exfalso; omega)
        | skip
      refine (HOF.out).mono ?_
      rintro _ _ ⟨rfl, rfl⟩
      go_wp2_with fail
      go_ret2
      exact ⟨rfl, rfl⟩
    · rw [show min D L = D by omega] at HOF
      go_enter Tryd.func24, Tryd.ntmps24
      go_wp2_with fail
      refine (HV.out).mono ?_
      rintro _ _ ⟨rfl, rfl⟩
      go_wp2_with fail
      refine (HLE.out).mono ?_
      rintro _ _ ⟨rfl, rfl⟩
      go_wp2_with fail
      all_goals
        first
        | (exfalso; omega)
        | skip
      refine (HOF.out).mono ?_
      rintro _ _ ⟨rfl, rfl⟩
      go_wp2_with fail
      go_ret2
      exact ⟨rfl, rfl⟩

set_option maxRecDepth 100000 in
set_option maxHeartbeats 8000000 in
theorem rMonLe (a b v : Int) (w : World) (ha : okD a = true) (hb : okD b = true) (hab : a ≤ b) (hv : v = months (ix a) (ix b)) : Calls Tryd.prog 26 #[.int .i64 a, .int .i64 b] w fun r w' => r = .returned (.tuple #[.int .i64 v, .int .i64 0]) ∧ w = w' := by
  obtain ⟨Y, M, D, hY, hM, hD, y1, y2, m1, m2, e1, e2, hmo, _⟩ := parts_of ha
  obtain ⟨Z, K, O, hZ, hK, hO, z1, z2, k1, k2, o1, o2, hno, _⟩ := parts_of hb
  have HCA := Lib.hid (rCheck a w)
  have HCB := Lib.hid (rCheck b w)
  rw [errD_ok ha] at HCA
  rw [errD_ok hb] at HCB
  have HDA := Lib.hid (rParts a Y M D 0 w (partsR_ok ha hY hM hD))
  have HDB := Lib.hid (rParts b Z K O 0 w (partsR_ok hb hZ hK hO))
  have hmn : (mo (ix b) : Int) - mo (ix a) = 12 * (Z - Y) + K - M := by omega
  have hrs := months_sh ha hb hab
  rw [hmn, ← hv] at hrs
  obtain ⟨s, hs⟩ : ∃ s, s = shI (ix a) (12 * (Z - Y) + K - M) := ⟨_, rfl⟩
  have hsr : addR a (12 * (Z - Y) + K - M) = (s, 0) := by
    have hi := ix_is hb
    have hj : (mo (ix a) : Int) + (12 * (Z - Y) + K - M) = (mo (ix b) : Nat) := by omega
    have e := shI_ok hj
    have h3 := (am_in (ix a) (mo (ix b))).2
    have h4 := st_small (k := mo (ix b) + 1) (by have := mo_small hi.2; omega)
    rw [shI_addR ha (by omega) (by omega), if_pos (by rw [okD_iff, e]; omega), hs]
  have HSH := Lib.hid (rAdd a (12 * (Z - Y) + K - M) s 0 w hsr)
  rw [← hs] at hrs
  clear hmn hs hsr hY hM hD hmo hZ hK hO hno ha hb hv
  by_cases hq : b < s
  · rw [if_pos hq] at hrs
    have HR := Lib.hid hrs
    clear hrs
    go_enter Tryd.func26, Tryd.ntmps26
    go_wp2_with fail
    refine (HCA.out).mono ?_
    rintro _ _ ⟨rfl, rfl⟩
    go_wp2_with fail
    refine (HCB.out).mono ?_
    rintro _ _ ⟨rfl, rfl⟩
    go_wp2_with fail
    refine (HDA.out).mono ?_
    rintro _ _ ⟨rfl, rfl⟩
    go_wp2_with fail
    refine (HDB.out).mono ?_
    rintro _ _ ⟨rfl, rfl⟩
    go_wp2_with fail
    refine (HSH.out).mono ?_
    rintro _ _ ⟨rfl, rfl⟩
    go_wp2_with fail
    go_ret2
    exact ⟨by rw [HR.out]; rfl, rfl⟩
  · rw [if_neg hq] at hrs
    have HR := Lib.hid hrs
    clear hrs
    go_enter Tryd.func26, Tryd.ntmps26
    go_wp2_with fail
    refine (HCA.out).mono ?_
    rintro _ _ ⟨rfl, rfl⟩
    go_wp2_with fail
    refine (HCB.out).mono ?_
    rintro _ _ ⟨rfl, rfl⟩
    go_wp2_with fail
    refine (HDA.out).mono ?_
    rintro _ _ ⟨rfl, rfl⟩
    go_wp2_with fail
    refine (HDB.out).mono ?_
    rintro _ _ ⟨rfl, rfl⟩
    go_wp2_with fail
    refine (HSH.out).mono ?_
    rintro _ _ ⟨rfl, rfl⟩
    go_wp2_with fail
    go_ret2
    exact ⟨by rw [HR.out]; rw [Int.sub_zero]; rfl, rfl⟩

set_option maxRecDepth 100000 in
set_option maxHeartbeats 8000000 in
theorem rMon (a b v e : Int) (w : World) (h : monR a b = (v, e)) : Calls Tryd.prog 26 #[.int .i64 a, .int .i64 b] w fun r w' => r = .returned (.tuple #[.int .i64 v, .int .i64 e]) ∧ w = w' := by
  have HA := Lib.hid (rCheck a w)
  have HB := Lib.hid (rCheck b w)
  cases ha : okD a with
  | false =>
    unfold monR at h
    rw [if_neg (fun g => by rw [ha] at g; exact absurd g.1 (by decide))] at h
    rw [errD_bad ha] at HA
    obtain ⟨rfl, rfl⟩ := Prod.mk.inj h
    clear h ha HB
    go_enter Tryd.func26, Tryd.ntmps26
    go_wp2_with fail
    refine (HA.out).mono ?_
    rintro _ _ ⟨rfl, rfl⟩
    go_wp2_with fail
    go_ret2
    exact ⟨rfl, rfl⟩
  | true =>
    rw [errD_ok ha] at HA
    cases hb : okD b with
    | false =>
      unfold monR at h
      rw [if_neg (fun g => by rw [hb] at g; exact absurd g.2 (by decide))] at h
      rw [errD_bad hb] at HB
      obtain ⟨rfl, rfl⟩ := Prod.mk.inj h
      clear h ha hb
      go_enter Tryd.func26, Tryd.ntmps26
      go_wp2_with fail
      refine (HA.out).mono ?_
      rintro _ _ ⟨rfl, rfl⟩
      go_wp2_with fail
      refine (HB.out).mono ?_
      rintro _ _ ⟨rfl, rfl⟩
      go_wp2_with fail
      go_ret2
      exact ⟨rfl, rfl⟩
    | true =>
      rw [errD_ok hb] at HB
      unfold monR at h
      rw [if_pos ⟨ha, hb⟩] at h
      by_cases hab : b < a
      · rw [if_neg (by omega)] at h
        obtain ⟨h1, h2⟩ := Prod.mk.inj h
        subst h2
        have hm := months_sh hb ha (by omega)
        obtain ⟨k, hk⟩ : ∃ k : Int, k = months (ix b) (ix a) := ⟨_, rfl⟩
        have hk1 : 0 ≤ k := by omega
        have hk2 : k ≤ 4000 := by
          have := mo_small (ix_is ha).2
          have := mo_small (ix_is hb).2
          split at hm <;> omega
        have HW := Lib.hid (rMonLe b a k w hb ha (by omega) hk)
        have HR := Lib.hid (show v = -k by rw [← h1, hk])
        clear h h1 ha hb hm hk
        go_enter Tryd.func26, Tryd.ntmps26
        go_wp2_with fail
        refine (HA.out).mono ?_
        rintro _ _ ⟨rfl, rfl⟩
        go_wp2_with fail
        refine (HB.out).mono ?_
        rintro _ _ ⟨rfl, rfl⟩
        go_wp2_with fail
        refine (HW.out).mono ?_
        rintro _ _ ⟨rfl, rfl⟩
        go_wp2_with fail
        go_ret2
        exact ⟨by rw [HR.out]; rfl, rfl⟩
      · rw [if_pos (by omega)] at h
        obtain ⟨h1, h2⟩ := Prod.mk.inj h
        subst h2
        exact rMonLe a b v w ha hb (by omega) h1.symm

end Go.Proofs.YtgpjadlnfofppaaDoor
