/- Layer 6, the reference implementation: Check, Leap, Length, Parts, Of: the walks. -/
import Derived.Test.YtgpjadlnfofppaaDoorYwc
namespace Go.Proofs.YtgpjadlnfofppaaDoor
open Go.RowKit Dat

/-- the error of a day -/
def errD (d : Int) : Int := if okD d = true then 0 else 13
theorem errD_ok {d : Int} (h : okD d = true) : errD d = 0 := by unfold errD; rw [if_pos h]
theorem errD_bad {d : Int} (h : okD d = false) : errD d = 13 := by unfold errD; rw [h]; rfl
set_option maxRecDepth 100000 in
set_option maxHeartbeats 4000000 in
theorem rCheck (d : Int) (w : World) : Calls Tryd.prog 37 #[.int .i64 d] w fun e w' => e = .returned (.int .i64 (errD d)) ∧ w = w' := by
  by_cases h1 : d < -25567
  · have H := Lib.hid (errD_bad (d := d) (okD_not.2 (by omega)))
    go_enter Tryd.func37, Tryd.ntmps37
    go_wp2_with fail
    go_ret
    exact ⟨by rw [H.out]; rfl, rfl⟩
  · by_cases h2 : 84005 < d
    · have H := Lib.hid (errD_bad (d := d) (okD_not.2 (by omega)))
      go_enter Tryd.func37, Tryd.ntmps37
      go_wp2_with fail
      go_ret
      exact ⟨by rw [H.out]; rfl, rfl⟩
    · have H := Lib.hid (errD_ok (d := d) (okD_iff.2 (by omega)))
      go_enter Tryd.func37, Tryd.ntmps37
      go_wp2_with fail
      go_ret
      exact ⟨by rw [H.out]; rfl, rfl⟩

theorem tmod_400 {y : Int} (h : (y.tmod 400 == 0) = true) : (y.tmod 4 == 0) = true := by
  rw [beq_iff_eq] at h ⊢
  exact Int.tmod_eq_zero_of_dvd (Int.dvd_trans (by decide) (Int.dvd_of_tmod_eq_zero h))

set_option maxRecDepth 100000 in
set_option maxHeartbeats 4000000 in
theorem rLeap (y : Int) (w : World) : Calls Tryd.prog 21 #[.int .i64 y] w fun e w' => e = .returned (.bool (lpB y)) ∧ w = w' := by
  unfold lpB
  cases h4 : (y.tmod 4 == 0) <;> cases h1 : (y.tmod 100 == 0) <;> cases h0 : (y.tmod 400 == 0)
  all_goals
    first
    | (exfalso; rw [tmod_400 h0] at h4; exact absurd h4 (by decide))
    | skip
  all_goals
    have h3 : (y.tmod 100 != 0) = !(y.tmod 100 == 0) := rfl
    rw [h1] at h3
    rw [h3]
    go_enter Tryd.func21, Tryd.ntmps21
    go_wp2_with fail
    go_ret
    exact ⟨rfl, rfl⟩

set_option maxRecDepth 100000 in
set_option maxHeartbeats 8000000 in
theorem rLen (y m L : Int) (w : World) (h1 : 1 ≤ m) (h2 : m ≤ 12) (hL : L = lenI y m) : Calls Tryd.prog 34 #[.int .i64 y, .int .i64 m] w fun e w' => e = .returned (.int .i64 L) ∧ w = w' := by
  have hm : m = 1 ∨ m = 2 ∨ m = 3 ∨ m = 4 ∨ m = 5 ∨ m = 6 ∨ m = 7 ∨ m = 8 ∨ m = 9 ∨ m = 10 ∨ m = 11 ∨ m = 12 := by omega
  unfold lenI at hL
  obtain ⟨l, hl⟩ : ∃ l, lpB y = l := ⟨_, rfl⟩
  have HLP := Lib.hid (fun w => rLeap y w)
  rw [hl] at hL HLP
  clear h1 h2 hl
  rcases hm with rfl | rfl | rfl | rfl | rfl | rfl | rfl | rfl | rfl | rfl | rfl | rfl
  · clear HLP
    have HL := Lib.hid hL
    clear hL
    go_enter Tryd.func34, Tryd.ntmps34
    go_wp2_with fail
    go_ret
    exact ⟨by rw [HL.out]; rfl, rfl⟩
  · cases l
    all_goals
      have HL := Lib.hid hL
      clear hL
      go_enter Tryd.func34, Tryd.ntmps34
      go_wp2_with fail
      refine (HLP.out _).mono ?_
      rintro _ _ ⟨rfl, rfl⟩
      go_wp2_with fail
      go_ret
      exact ⟨by rw [HL.out]; rfl, rfl⟩
  · clear HLP
    have HL := Lib.hid hL
    clear hL
    go_enter Tryd.func34, Tryd.ntmps34
    go_wp2_with fail
    go_ret
    exact ⟨by rw [HL.out]; rfl, rfl⟩
  · clear HLP
    have HL := Lib.hid hL
    clear hL
    go_enter Tryd.func34, Tryd.ntmps34
    go_wp2_with fail
    go_ret
    exact ⟨by rw [HL.out]; rfl, rfl⟩
  · clear HLP
    have HL := Lib.hid hL
    clear hL
    go_enter Tryd.func34, Tryd.ntmps34
    go_wp2_with fail
    go_ret
    exact ⟨by rw [HL.out]; rfl, rfl⟩
  · clear HLP
    have HL := Lib.hid hL
    clear hL
    go_enter Tryd.func34, Tryd.ntmps34
    go_wp2_with fail
    go_ret
    exact ⟨by rw [HL.out]; rfl, rfl⟩
  · clear HLP
    have HL := Lib.hid hL
    clear hL
    go_enter Tryd.func34, Tryd.ntmps34
    go_wp2_with fail
    go_ret
    exact ⟨by rw [HL.out]; rfl, rfl⟩
  · clear HLP
    have HL := Lib.hid hL
    clear hL
    go_enter Tryd.func34, Tryd.ntmps34
    go_wp2_with fail
    go_ret
    exact ⟨by rw [HL.out]; rfl, rfl⟩
  · clear HLP
    have HL := Lib.hid hL
    clear hL
    go_enter Tryd.func34, Tryd.ntmps34
    go_wp2_with fail
    go_ret
    exact ⟨by rw [HL.out]; rfl, rfl⟩
  · clear HLP
    have HL := Lib.hid hL
    clear hL
    go_enter Tryd.func34, Tryd.ntmps34
    go_wp2_with fail
    go_ret
    exact ⟨by rw [HL.out]; rfl, rfl⟩
  · clear HLP
    have HL := Lib.hid hL
    clear hL
    go_enter Tryd.func34, Tryd.ntmps34
    go_wp2_with fail
    go_ret
    exact ⟨by rw [HL.out]; rfl, rfl⟩
  · clear HLP
    have HL := Lib.hid hL
    clear hL
    go_enter Tryd.func34, Tryd.ntmps34
    go_wp2_with fail
    go_ret
    exact ⟨by rw [HL.out]; rfl, rfl⟩

set_option maxRecDepth 100000 in
set_option maxHeartbeats 8000000 in
theorem rParts (d p q s e : Int) (w : World) (h : partsR d = (p, q, s, e)) : Calls Tryd.prog 15 #[.int .i64 d] w fun r w' => r = .returned (.tuple #[.int .i64 p, .int .i64 q, .int .i64 s, .int .i64 e]) ∧ w = w' := by
  unfold partsR at h
  have HV := Lib.hid (rCheck d w)
  cases hd : okD d with
  | false =>
    rw [hd, if_neg (by decide)] at h
    rw [errD_bad hd] at HV
    simp only [Prod.mk.injEq] at h
    obtain ⟨rfl, rfl, rfl, rfl⟩ := h
    clear hd
    go_enter Tryd.func15, Tryd.ntmps15
    go_wp2_with fail
    refine (HV.out).mono ?_
    rintro _ _ ⟨rfl, rfl⟩
    go_wp2_with fail
    exact bodyPost_ret (v := .tuple #[.int .i64 0, .int .i64 0, .int .i64 0, .int .i64 13]) (by simp [results, Tryd.results15, go_sem]) rfl ⟨rfl, rfl⟩
  | true =>
    rw [hd, if_pos rfl] at h
    rw [errD_ok hd] at HV
    simp only [Prod.mk.injEq] at h
    obtain ⟨h1, h2, h3, rfl⟩ := h
    obtain ⟨d1, d2⟩ := okD_iff.1 hd
    have hx := ix_is hd
    have HE := Lib.hid (show ∀ y m x : Int, 1900 ≤ y → 1 ≤ m → m ≤ 12 → x = d - (nyI y + cumI y m) → 0 ≤ x → x < lenI y m → p = y ∧ q = m ∧ s = x + 1 by
      intro y m x a1 a2 a3 a4 a5 a6
      have g := parts_at (n := ix d) (y := y) (m := m) a1 a2 a3 (by omega) (by omega)
      rw [← h1, ← h2, ← h3]
      refine ⟨g.1.symm, g.2.1.symm, ?_⟩
      omega)
    have HLP := Lib.hid (fun y => rLeap y w)
    have HLE := Lib.hid (fun y k (a : 1 ≤ k) (b : k ≤ 12) => rLen y k (lenI y k) w a b rfl)
    have h00 : nyI 1900 = -25567 := by decide
    have H0 := Lib.hid h00
    clear hd hx h1 h2 h3 h00
    go_enter Tryd.func15, Tryd.ntmps15
    go_wp2_with fail
    refine (HV.out).mono ?_
    rintro _ _ ⟨rfl, rfl⟩
    go_wp2_with fail
    go_loop [6, 7] (fun nv yv => ∃ y x : Int, 1900 ≤ y ∧ y ≤ 2199 ∧ 0 ≤ x ∧ x ≤ 110000 ∧ nv = .int .i64 x ∧ yv = .int .i64 y ∧ Hid (x = d - nyI y)) (fun _ yv => (3000 - intOf yv).toNat)
    case atStart => exact ⟨1900, d + 25567, by omega, by omega, by omega, by omega, rfl, rfl, Lib.hid (by rw [H0.out]; omega)⟩
    case round =>
      obtain ⟨y, x, hy1, hy2, hx1, hx2, rfl, rfl, HX⟩ := hrel
      have hs := nyI_succ (y := y) (by omega)
      have HP := Lib.hid (HLP.out y)
      obtain ⟨t, ht⟩ : ∃ t, (365 : Int) + (if lpB y = true then 1 else 0) = t := ⟨_, rfl⟩
      have ht2 : t = if lpB y = true then 366 else 365 := by rw [← ht]; split <;> rfl
      have hs2 : nyI (y + 1) = nyI y + t := by omega
      have h13 : cumI y 13 = t := by rw [cumI_thirteen]; exact ht
      clear hs ht
      cases hl : lpB y
      case false =>
        rw [hl] at HP ht2
        obtain rfl : t = 365 := ht2
        clear hl
        by_cases hlt : 365 ≤ x
        · have hy3 : y + 1 ≤ 2199 := by
            rcases Int.lt_or_le 2199 (y + 1) with g | g
            · have := nyI_high (y := y + 1) (by omega) (by omega)
              have := HX.out
              omega
            · exact g
          have HX2 := Lib.hid (show x - 365 = d - nyI (y + 1) by rw [hs2, HX.out]; omega)
          clear hs2 h13 HX
          go_wp2_with fail
          refine (HP.out).mono ?_
          rintro _ _ ⟨rfl, rfl⟩
          go_wp2_with fail
          go_round
          case rel => exact ⟨y + 1, x - 365, by omega, by omega, by omega, by omega, rfl, rfl, HX2⟩
          case measure => simp [intOf]; omega
        · have HT := Lib.hid (show d < nyI y + cumI y 13 by have := HX.out; omega)
          have HLY := Lib.hid (fun k (a : 1 ≤ k) (b : k ≤ 12) => HLE.out y k a b)
          have hx3 : x ≤ 400 := by omega
          obtain ⟨v, hv⟩ : ∃ v, nyI y = v := ⟨_, rfl⟩
          have HV2 := Lib.hid hv
          rw [hv] at HX HT
          clear hs2 h13 hv
          go_wp2_with fail
          refine (HP.out).mono ?_
          rintro _ _ ⟨rfl, rfl⟩
          go_wp2_with fail
          clear HP
          go_loop [6, 8] (fun xv mv => ∃ m x : Int, 1 ≤ m ∧ m ≤ 12 ∧ 0 ≤ x ∧ x ≤ 400 ∧ mv = .int .i64 m ∧ xv = .int .i64 x ∧ Hid (x = d - (v + cumI y m))) (fun _ mv => (20 - intOf mv).toNat)
          case atStart => exact ⟨1, x, by omega, by omega, by omega, by omega, rfl, rfl, Lib.hid (by rw [cumI_one, HX.out]; omega)⟩
          case round =>
            clear HX hx1 hx2 hx3 hlt
            obtain ⟨m, x, hm1, hm2, hx1, hx2, rfl, rfl, HX⟩ := hrel
            have hs := cumI_succ y hm1 hm2
            have hl1 := lenI_low y m
            have hl2 := lenI_high y m
            obtain ⟨L, hL⟩ : ∃ L, lenI y m = L := ⟨_, rfl⟩
            have HC := Lib.hid (HLY.out m hm1 hm2)
            rw [hL] at hs HC hl1 hl2
            by_cases hlt : L ≤ x
            · have hm3 : m ≤ 11 := by
                rcases Int.lt_or_le 11 m with g | g
                · obtain rfl : m = 12 := by omega
                  have := HX.out
                  have h13 := HT.out
                  rw [show (13 : Int) = 12 + 1 from rfl, hs] at h13
                  omega
                · exact g
              have HX2 := Lib.hid (show x - L = d - (v + cumI y (m + 1)) by rw [hs, HX.out]; omega)
              clear hs hL HX
              go_wp2_with fail
              refine (HC.out).mono ?_
              rintro _ _ ⟨rfl, rfl⟩
              go_wp2_with fail
              refine (HC.out).mono ?_
              rintro _ _ ⟨rfl, rfl⟩
              go_wp2_with fail
              go_round
              case rel => exact ⟨m + 1, x - L, by omega, by omega, by omega, by omega, rfl, rfl, HX2⟩
              case measure => simp [intOf]; omega
            · obtain ⟨e1, e2, e3⟩ := HE.out y m x hy1 hm1 hm2 (by rw [HV2.out]; exact HX.out) hx1 (by rw [hL]; omega)
              have E := Lib.hid (And.intro e1 (And.intro e2 e3))
              clear hs hL HX e1 e2 e3
              go_wp2_with fail
              refine (HC.out).mono ?_
              rintro _ _ ⟨rfl, rfl⟩
              go_wp2_with fail
              exact bodyPost_ret (v := .tuple #[.int .i64 y, .int .i64 m, .int .i64 (x + 1), .int .i64 0]) (by simp [results, Tryd.results15, go_sem]) rfl ⟨by rw [E.out.1, E.out.2.1, E.out.2.2], rfl⟩
      case true =>
        rw [hl] at HP ht2
        obtain rfl : t = 366 := ht2
        clear hl
        by_cases hlt : 366 ≤ x
        · have hy3 : y + 1 ≤ 2199 := by
            rcases Int.lt_or_le 2199 (y + 1) with g | g
            · have := nyI_high (y := y + 1) (by omega) (by omega)
              have := HX.out
              omega
            · exact g
          have HX2 := Lib.hid (show x - 366 = d - nyI (y + 1) by rw [hs2, HX.out]; omega)
          clear hs2 h13 HX
          go_wp2_with fail
          refine (HP.out).mono ?_
          rintro _ _ ⟨rfl, rfl⟩
          go_wp2_with fail
          go_round
          case rel => exact ⟨y + 1, x - 366, by omega, by omega, by omega, by omega, rfl, rfl, HX2⟩
          case measure => simp [intOf]; omega
        · have HT := Lib.hid (show d < nyI y + cumI y 13 by have := HX.out; omega)
          have HLY := Lib.hid (fun k (a : 1 ≤ k) (b : k ≤ 12) => HLE.out y k a b)
          have hx3 : x ≤ 400 := by omega
          obtain ⟨v, hv⟩ : ∃ v, nyI y = v := ⟨_, rfl⟩
          have HV2 := Lib.hid hv
          rw [hv] at HX HT
          clear hs2 h13 hv
          go_wp2_with fail
          refine (HP.out).mono ?_
          rintro _ _ ⟨rfl, rfl⟩
          go_wp2_with fail
          clear HP
          go_loop [6, 8] (fun xv mv => ∃ m x : Int, 1 ≤ m ∧ m ≤ 12 ∧ 0 ≤ x ∧ x ≤ 400 ∧ mv = .int .i64 m ∧ xv = .int .i64 x ∧ Hid (x = d - (v + cumI y m))) (fun _ mv => (20 - intOf mv).toNat)
          case atStart => exact ⟨1, x, by omega, by omega, by omega, by omega, rfl, rfl, Lib.hid (by rw [cumI_one, HX.out]; omega)⟩
          case round =>
            clear HX hx1 hx2 hx3 hlt
            obtain ⟨m, x, hm1, hm2, hx1, hx2, rfl, rfl, HX⟩ := hrel
            have hs := cumI_succ y hm1 hm2
            have hl1 := lenI_low y m
            have hl2 := lenI_high y m
            obtain ⟨L, hL⟩ : ∃ L, lenI y m = L := ⟨_, rfl⟩
            have HC := Lib.hid (HLY.out m hm1 hm2)
            rw [hL] at hs HC hl1 hl2
            by_cases hlt : L ≤ x
            · have hm3 : m ≤ 11 := by
                rcases Int.lt_or_le 11 m with g | g
                · obtain rfl : m = 12 := by omega
                  have := HX.out
                  have h13 := HT.out
                  rw [show (13 : Int) = 12 + 1 from rfl, hs] at h13
                  omega
                · exact g
              have HX2 := Lib.hid (show x - L = d - (v + cumI y (m + 1)) by rw [hs, HX.out]; omega)
              clear hs hL HX
              go_wp2_with fail
              refine (HC.out).mono ?_
              rintro _ _ ⟨rfl, rfl⟩
              go_wp2_with fail
              refine (HC.out).mono ?_
              rintro _ _ ⟨rfl, rfl⟩
              go_wp2_with fail
              go_round
              case rel => exact ⟨m + 1, x - L, by omega, by omega, by omega, by omega, rfl, rfl, HX2⟩
              case measure => simp [intOf]; omega
            · obtain ⟨e1, e2, e3⟩ := HE.out y m x hy1 hm1 hm2 (by rw [HV2.out]; exact HX.out) hx1 (by rw [hL]; omega)
              have E := Lib.hid (And.intro e1 (And.intro e2 e3))
              clear hs hL HX e1 e2 e3
              go_wp2_with fail
              refine (HC.out).mono ?_
              rintro _ _ ⟨rfl, rfl⟩
              go_wp2_with fail
              exact bodyPost_ret (v := .tuple #[.int .i64 y, .int .i64 m, .int .i64 (x + 1), .int .i64 0]) (by simp [results, Tryd.results15, go_sem]) rfl ⟨by rw [E.out.1, E.out.2.1, E.out.2.2], rfl⟩

end Go.Proofs.YtgpjadlnfofppaaDoor
