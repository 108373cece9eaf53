/- Layer 6, the program: dayOf, dateOf: the walks. -/
import Derived.Test.YtgpjadlnfofppaaDoorYwa
namespace Go.Proofs.YtgpjadlnfofppaaDoor
open Go.RowKit Dat

set_option maxRecDepth 100000 in
set_option maxHeartbeats 4000000 in
theorem pDayOf (y m d r : Int) (w : World) (hG : Ground w) (h1 : 1 ≤ y) (h2 : y ≤ 9999) (g1 : 1 ≤ m) (g2 : m ≤ 12) (k1 : 1 ≤ d) (k2 : d ≤ 31) (hr : r = nyI y + cumI y m + d - 1) :
    Calls Tryd.prog 33 #[.int .i64 y, .int .i64 m, .int .i64 d] w fun e w' => e = .returned (.int .i64 r) ∧ w = w' := by
  obtain ⟨z, hz⟩ : ∃ z, z = nyI y := ⟨_, rfl⟩
  have hzb := nyI_bound (y := y) h1 (by omega)
  rw [← hz] at hzb
  obtain ⟨hz1, hz2⟩ := hzb
  have HNY := Lib.hid (fun w => pNew y z w h1 (by omega) hz)
  have HLE := Lib.hid (fun k (a : 1 ≤ k) (b : k ≤ 12) => pLen y k (lenI y k) w hG a b rfl)
  have HR := Lib.hid (show r = z + (d - 1 + cumI y m) by rw [hr, hz]; omega)
  have _ := hG
  clear hr hz hG
  go_enter Tryd.func33, Tryd.ntmps33
  go_wp2_with fail
  go_loop [7, 8] (fun dv bv => ∃ k x : Int, 1 ≤ k ∧ k ≤ m ∧ 0 ≤ x ∧ x ≤ 1000 ∧ bv = .int .i64 k ∧ dv = .int .i64 x ∧ Hid (x = d - 1 + cumI y k)) (fun _ bv => (m - intOf bv).toNat)
  case atStart => exact ⟨1, d - 1, by omega, g1, by omega, by omega, rfl, rfl, Lib.hid (by rw [cumI_one]; omega)⟩
  case round =>
    obtain ⟨k, x, hk1, hk2, hx1, hx2, rfl, rfl, HX⟩ := hrel
    by_cases hlt : k < m
    · have hs := cumI_succ y hk1 (by omega)
      have hc := cumI_high y hk1 (by omega)
      have hc0 := cumI_low y k
      obtain ⟨L, hL⟩ : ∃ L, lenI y k = L := ⟨_, rfl⟩
      have hl1 := lenI_low y k
      have hl2 := lenI_high y k
      have HC := Lib.hid (HLE.out k hk1 (by omega))
      rw [hL] at hs hc HC hl1 hl2
      have HX2 := Lib.hid (show x + L = d - 1 + cumI y (k + 1) by rw [hs, HX.out]; omega)
      have hxl : x + L ≤ 1000 := by have := HX.out; split at hc <;> omega
      clear hs hc hL HX hc0
      go_wp2_with fail
      refine (HC.out).mono ?_
      rintro _ _ ⟨rfl, rfl⟩
      go_wp2_with fail
      go_round
      case rel => exact ⟨k + 1, x + L, by omega, by omega, by omega, by omega, rfl, rfl, HX2⟩
      case measure => simp [intOf]; omega
    · obtain rfl : k = m := by omega
      go_wp2_with fail
      refine (HNY.out _).mono ?_
      rintro _ _ ⟨rfl, rfl⟩
      go_wp2_with fail
      go_ret
      exact ⟨ret_int (by rw [HR.out, HX.out]), rfl⟩

set_option maxRecDepth 100000 in
set_option maxHeartbeats 4000000 in
theorem pDateOf (d Y M D : Int) (w : World) (hG : Ground w) (hd : okD d = true) (hY : Y = yr (ix d)) (hM : M = mn (ix d)) (hD : D = dy (ix d)) :
    Calls Tryd.prog 36 #[.int .i64 d] w fun e w' => e = .returned (.tuple #[.int .i64 Y, .int .i64 M, .int .i64 D]) ∧ w = w' := by
  obtain ⟨d1, d2⟩ := okD_iff.1 hd
  have hx := ix_is hd
  have HE := Lib.hid (show ∀ y m x : Int, 1900 ≤ y → 1 ≤ m → m ≤ 12 → x = d - (nyI y + cumI y m) + 1 → 1 ≤ x → x ≤ lenI y m → y = Y ∧ m = M ∧ x = D by
    intro y m x a1 a2 a3 a4 a5 a6
    have h := parts_at (n := ix d) (y := y) (m := m) a1 a2 a3 (by omega) (by omega)
    rw [hY, hM, hD]
    refine ⟨h.1, h.2.1, ?_⟩
    omega)
  have hg := yr_guess (n := ix d) (y := 1900 + ((ix d : Nat) : Int) / 366) (by omega) rfl
  rw [hx.1] at hg
  have HNY := Lib.hid (fun y (a : 1 ≤ y) (b : y ≤ 10000) => pNew y (nyI y) w a b rfl)
  have HLE := Lib.hid (fun y k (a : 1 ≤ k) (b : k ≤ 12) => pLen y k (lenI y k) w hG a b rfl)
  have HG := Lib.hid (show nyI (1900 + (d + 25567) / 366) ≤ d by omega)
  have hy0 : 1900 + (d + 25567) / 366 ≤ 2199 := by omega
  have hy1 : 1900 ≤ 1900 + (d + 25567) / 366 := by omega
  obtain ⟨y0, hy⟩ : ∃ y0, 1900 + (d + 25567) / 366 = y0 := ⟨_, rfl⟩
  rw [hy] at HG hy0 hy1
  have HY := Lib.hid hy
  clear hx hg hY hM hD hG hd hy
  go_enter Tryd.func36, Tryd.ntmps36
  go_wp2_with fail
  go_loop [2] (fun yv => ∃ y : Int, 1900 ≤ y ∧ y ≤ 2199 ∧ yv = .int .i64 y ∧ Hid (nyI y ≤ d)) (fun yv => (3000 - intOf yv).toNat)
  case atStart => exact ⟨y0, hy1, hy0, by rw [← HY.out], HG⟩
  case round =>
    clear HG hy0 hy1 HY
    obtain ⟨y, hy1, hy2, rfl, HG⟩ := hrel
    have hz : nyI (y + 1) ≤ d ∨ d < nyI (y + 1) := by omega
    obtain ⟨z, hzz⟩ : ∃ z, nyI (y + 1) = z := ⟨_, rfl⟩
    have HN1 := Lib.hid (HNY.out (y + 1) (by omega) (by omega))
    have hzb := nyI_bound (y := y + 1) (by omega) (by omega)
    rw [hzz] at hz HN1 hzb
    obtain ⟨hzb1, hzb2⟩ := hzb
    rcases hz with hz | hz
    · have hy3 : y + 1 ≤ 2199 := by
        rcases Int.lt_or_le 2199 (y + 1) with q | q
        · have := nyI_high (y := y + 1) (by omega) (by omega)
          omega
        · exact q
      have HG2 := Lib.hid (show nyI (y + 1) ≤ d by rw [hzz]; exact hz)
      clear hzz HG
      go_wp2_with fail
      refine (HN1.out).mono ?_
      rintro _ _ ⟨rfl, rfl⟩
      go_wp2_with fail
      go_round
      case rel => exact ⟨y + 1, by omega, hy3, rfl, HG2⟩
      case measure => simp [intOf]; omega
    · have hs := nyI_succ (y := y) (by omega)
      obtain ⟨v, hv⟩ : ∃ v, nyI y = v := ⟨_, rfl⟩
      have HN0 := Lib.hid (HNY.out y (by omega) (by omega))
      have hgo := HG.out
      have hvb := nyI_bound (y := y) (by omega) (by omega)
      rw [hv] at HN0 hgo hvb
      obtain ⟨hv1, hv2⟩ := hvb
      have HT := Lib.hid (show d < v + cumI y 13 by rw [cumI_thirteen, ← hv]; omega)
      have HV := Lib.hid hv
      have HLY := Lib.hid (fun k (a : 1 ≤ k) (b : k ≤ 12) => HLE.out y k a b)
      have hvd : d - v + 1 ≤ 400 := by rw [hzz, hv] at hs; split at hs <;> omega
      clear hzz hv hs HG HLE HNY
      go_wp2_with fail
      refine (HN1.out).mono ?_
      rintro _ _ ⟨rfl, rfl⟩
      go_wp2_with fail
      refine (HN0.out).mono ?_
      rintro _ _ ⟨rfl, rfl⟩
      clear HN0 HN1
      go_wp2_with fail
      go_loop [3, 4] (fun mv xv => ∃ m x : Int, 1 ≤ m ∧ m ≤ 12 ∧ 1 ≤ x ∧ x ≤ 400 ∧ mv = .int .i64 m ∧ xv = .int .i64 x ∧ Hid (x = d - (v + cumI y m) + 1)) (fun mv _ => (20 - intOf mv).toNat)
      case atStart => exact ⟨1, d - v + 1, by omega, by omega, by omega, by omega, rfl, rfl, Lib.hid (by rw [cumI_one]; omega)⟩
      case round =>
        obtain ⟨m, x, hm1, hm2, hx1, hx2, rfl, rfl, HX⟩ := hrel
        have hs := cumI_succ y hm1 hm2
        have hl1 := lenI_low y m
        have hl2 := lenI_high y m
        obtain ⟨L, hL⟩ : ∃ L, lenI y m = L := ⟨_, rfl⟩
        have HC := Lib.hid (HLY.out m hm1 hm2)
        rw [hL] at hs HC hl1 hl2
        by_cases hlt : L < x
        · have hm3 : m ≤ 11 := by
            rcases Int.lt_or_le 11 m with q | q
            · obtain rfl : m = 12 := by omega
              have := HX.out
              have h13 := HT.out
              rw [show (13 : Int) = 12 + 1 from rfl, hs] at h13
              omega
            · exact q
          have HX2 := Lib.hid (show x - L = d - (v + cumI y (m + 1)) + 1 by rw [hs, HX.out]; omega)
          clear hs hL HX
          go_wp2_with fail
          refine (HC.out).mono ?_
          rintro _ _ ⟨rfl, rfl⟩
          go_wp2_with fail
          refine (HC.out).mono ?_
          rintro _ _ ⟨rfl, rfl⟩
          go_wp2_with fail
          go_round
          case rel => exact ⟨m + 1, x - L, by omega, by omega, by omega, by omega, rfl, rfl, HX2⟩
          case measure => simp [intOf]; omega
        · obtain ⟨e1, e2, e3⟩ := HE.out y m x hy1 hm1 hm2 (by rw [HV.out]; exact HX.out) hx1 (by rw [hL]; omega)
          have E := Lib.hid (And.intro e1 (And.intro e2 e3))
          clear hs hL HX e1 e2 e3
          go_wp2_with fail
          refine (HC.out).mono ?_
          rintro _ _ ⟨rfl, rfl⟩
          go_wp2_with fail
          go_ret3
          exact ⟨by rw [← E.out.1, ← E.out.2.1, ← E.out.2.2]; rfl, rfl⟩

end Go.Proofs.YtgpjadlnfofppaaDoor
