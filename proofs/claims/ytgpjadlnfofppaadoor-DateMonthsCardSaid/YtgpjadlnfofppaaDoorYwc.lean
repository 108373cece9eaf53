/- Layer 6, the program: isDate, shift, wholeMonths: the walks. -/
import Derived.Test.YtgpjadlnfofppaaDoorYwb
namespace Go.Proofs.YtgpjadlnfofppaaDoor
open Go.RowKit Dat

set_option maxRecDepth 100000 in
set_option maxHeartbeats 4000000 in
theorem pDate (y m d : Int) (w : World) (hG : Ground w) : Calls Tryd.prog 32 #[.int .i64 y, .int .i64 m, .int .i64 d] w fun e w' => e = .returned (.bool (okT y m d)) ∧ w = w' := by
  by_cases c0 : 1900 ≤ y
  case neg =>
    have H := Lib.hid (show okT y m d = false from decide_eq_false (fun h => c0 h.1))
    clear hG
    go_enter Tryd.func32, Tryd.ntmps32
    go_wp2_with fail
    go_ret
    exact ⟨by rw [H.out]; rfl, rfl⟩
  by_cases c1 : y ≤ 2199
  case neg =>
    have H := Lib.hid (show okT y m d = false from decide_eq_false (fun h => c1 h.2.1))
    clear hG
    go_enter Tryd.func32, Tryd.ntmps32
    go_wp2_with fail
    go_ret
    exact ⟨by rw [H.out]; rfl, rfl⟩
  by_cases c2 : 1 ≤ m
  case neg =>
    have H := Lib.hid (show okT y m d = false from decide_eq_false (fun h => c2 h.2.2.1))
    clear hG
    go_enter Tryd.func32, Tryd.ntmps32
    go_wp2_with fail
    go_ret
    exact ⟨by rw [H.out]; rfl, rfl⟩
  by_cases c3 : m ≤ 12
  case neg =>
    have H := Lib.hid (show okT y m d = false from decide_eq_false (fun h => c3 h.2.2.2.1))
    clear hG
    go_enter Tryd.func32, Tryd.ntmps32
    go_wp2_with fail
    go_ret
    exact ⟨by rw [H.out]; rfl, rfl⟩
  by_cases c4 : 1 ≤ d
  case neg =>
    have H := Lib.hid (show okT y m d = false from decide_eq_false (fun h => c4 h.2.2.2.2.1))
    clear hG
    go_enter Tryd.func32, Tryd.ntmps32
    go_wp2_with fail
    go_ret
    exact ⟨by rw [H.out]; rfl, rfl⟩
  obtain ⟨L, hL⟩ : ∃ L, L = lenI y m := ⟨_, rfl⟩
  have HC := Lib.hid (pLen y m L w hG c2 c3 hL)
  have H := Lib.hid (show okT y m d = decide (d ≤ L) by unfold okT; rw [hL, decide_eq_decide]; exact ⟨fun h => h.2.2.2.2.2, fun h => ⟨c0, c1, c2, c3, c4, h⟩⟩)
  clear hG hL
  go_enter Tryd.func32, Tryd.ntmps32
  go_wp2_with fail
  refine (HC.out).mono ?_
  rintro _ _ ⟨rfl, rfl⟩
  go_wp2_with fail
  go_ret
  exact ⟨by rw [H.out]; rfl, rfl⟩

/-- the date of a valid day -/
theorem parts_of {d : Int} (h : okD d = true) : ∃ Y M D : Int, Y = yr (ix d) ∧ M = mn (ix d) ∧ D = dy (ix d) ∧ 1900 ≤ Y ∧ Y ≤ 2199 ∧ 1 ≤ M ∧ M ≤ 12 ∧ 1 ≤ D ∧ D ≤ 31 ∧ 12 * Y + M - 1 = 22800 + mo (ix d) ∧ D ≤ lenI Y M := by
  obtain ⟨_, hn⟩ := ix_is h
  have h1 := yr_low (ix d)
  have h2 := yr_high hn
  have h3 := mn_le (ix d)
  have h4 := dy_le (ix d)
  have h5 := mlen_high (yr (ix d)) (mn (ix d))
  have h6 := yr_mn (ix d)
  have h7 := lenI_nat (yr (ix d)) (mn (ix d))
  exact ⟨_, _, _, rfl, rfl, rfl, by omega, by omega, by omega, by omega, by omega, by omega, h6, by omega⟩

set_option maxRecDepth 100000 in
set_option maxHeartbeats 8000000 in
theorem pShift (d n r : Int) (w : World) (hG : Ground w) (hd : okD d = true) (n1 : -4800 ≤ n) (n2 : n ≤ 4800) (hr : r = shI (ix d) n) : Calls Tryd.prog 39 #[.int .i64 d, .int .i64 n] w fun e w' => e = .returned (.int .i64 r) ∧ w = w' := by
  obtain ⟨Y, M, D, hY, hM, hD, y1, y2, m1, m2, e1, e2, hmo, _⟩ := parts_of hd
  have HDO := Lib.hid (pDateOf d Y M D w hG hd hY hM hD)
  obtain ⟨L, hL⟩ : ∃ L, L = lenI ((12 * Y + M - 1 + n) / 12) ((12 * Y + M - 1 + n) % 12 + 1) := ⟨_, rfl⟩
  have HLE := Lib.hid (pLen ((12 * Y + M - 1 + n) / 12) ((12 * Y + M - 1 + n) % 12 + 1) L w hG (by omega) (by omega) hL)
  have hl1 : 28 ≤ L := by rw [hL]; exact lenI_low _ _
  have HDY := Lib.hid (pDayOf ((12 * Y + M - 1 + n) / 12) ((12 * Y + M - 1 + n) % 12 + 1) (min D L) r w hG (by omega) (by omega) (by omega) (by omega) (by omega) (by omega) (by rw [hr, hL]; unfold shI; rw [← hmo, ← hD]))
  clear hL hY hM hD hmo hd hr hG hl1

  by_cases hq : L < D
  · rw [show min D L = L by omega] at HDY
    go_enter Tryd.func39, Tryd.ntmps39
    go_wp2_with fail
    refine (HDO.out).mono ?_
    rintro _ _ ⟨rfl, rfl⟩
    go_wp2_with fail
    refine (HLE.out).mono ?_
    rintro _ _ ⟨rfl, rfl⟩
    go_wp2_with fail
    all_goals
      first
      | (exfalso; omega)
      | skip
    refine (HDY.out).mono ?_
    rintro _ _ ⟨rfl, rfl⟩
    go_wp2_with fail
    go_ret
    exact ⟨rfl, rfl⟩

  · rw [show min D L = D by omega] at HDY
    go_enter Tryd.func39, Tryd.ntmps39
    go_wp2_with fail
    refine (HDO.out).mono ?_
    rintro _ _ ⟨rfl, rfl⟩
    go_wp2_with fail
    refine (HLE.out).mono ?_
    rintro _ _ ⟨rfl, rfl⟩
    go_wp2_with fail
    all_goals
      first
      | (exfalso; omega)
      | skip
    refine (HDY.out).mono ?_
    rintro _ _ ⟨rfl, rfl⟩
    go_wp2_with fail
    go_ret
    exact ⟨rfl, rfl⟩

set_option maxRecDepth 100000 in
set_option maxHeartbeats 8000000 in
theorem pWhole (a b r : Int) (w : World) (hG : Ground w) (ha : okD a = true) (hb : okD b = true) (hab : a ≤ b) (hr : r = months (ix a) (ix b)) : Calls Tryd.prog 40 #[.int .i64 a, .int .i64 b] w fun e w' => e = .returned (.int .i64 r) ∧ w = w' := by
  obtain ⟨Y, M, D, hY, hM, hD, y1, y2, m1, m2, e1, e2, hmo, _⟩ := parts_of ha
  obtain ⟨Z, K, O, hZ, hK, hO, z1, z2, k1, k2, o1, o2, hno, _⟩ := parts_of hb
  have HDA := Lib.hid (pDateOf a Y M D w hG ha hY hM hD)
  have HDB := Lib.hid (pDateOf b Z K O w hG hb hZ hK hO)
  have hmn : (mo (ix b) : Int) - mo (ix a) = 12 * (Z - Y) + K - M := by omega
  have hrs := months_sh ha hb hab
  rw [hmn, ← hr] at hrs
  obtain ⟨s, hs⟩ : ∃ s, s = shI (ix a) (12 * (Z - Y) + K - M) := ⟨_, rfl⟩
  have HSH := Lib.hid (pShift a (12 * (Z - Y) + K - M) s w hG ha (by omega) (by omega) hs)
  rw [← hs] at hrs
  clear hmn hs hY hM hD hmo hZ hK hO hno ha hb hr hG
  by_cases hq : b < s
  · rw [if_pos hq] at hrs
    have HR := Lib.hid hrs
    clear hrs
    go_enter Tryd.func40, Tryd.ntmps40
    go_wp2_with fail
    refine (HDA.out).mono ?_
    rintro _ _ ⟨rfl, rfl⟩
    go_wp2_with fail
    refine (HDB.out).mono ?_
    rintro _ _ ⟨rfl, rfl⟩
    go_wp2_with fail
    refine (HSH.out).mono ?_
    rintro _ _ ⟨rfl, rfl⟩
    go_wp2_with fail
    go_ret
    exact ⟨ret_int (by rw [HR.out]), rfl⟩
  · rw [if_neg hq] at hrs
    have HR := Lib.hid hrs
    clear hrs
    go_enter Tryd.func40, Tryd.ntmps40
    go_wp2_with fail
    refine (HDA.out).mono ?_
    rintro _ _ ⟨rfl, rfl⟩
    go_wp2_with fail
    refine (HDB.out).mono ?_
    rintro _ _ ⟨rfl, rfl⟩
    go_wp2_with fail
    refine (HSH.out).mono ?_
    rintro _ _ ⟨rfl, rfl⟩
    go_wp2_with fail
    go_ret
    exact ⟨ret_int (by rw [HR.out]; omega), rfl⟩

end Go.Proofs.YtgpjadlnfofppaaDoor
