/- Layer 6, the program: isValid, Leap, monthDays, leapYears, newYear: the walks. -/
import Derived.Test.YtgpjadlnfofppaaDoorYBase
namespace Go.Proofs.YtgpjadlnfofppaaDoor
open Go.RowKit Dat

set_option maxRecDepth 100000 in
set_option maxHeartbeats 4000000 in
theorem pValid (d : Int) (w : World) : Calls Tryd.prog 35 #[.int .i64 d] w fun e w' => e = .returned (.bool (okD d)) ∧ w = w' := by
  by_cases h1 : -25567 ≤ d
  · by_cases h2 : d ≤ 84005
    · have H := Lib.hid (show okD d = true from okD_iff.2 ⟨h1, h2⟩)
      go_enter Tryd.func35, Tryd.ntmps35
      go_wp2_with fail
      go_ret
      exact ⟨by rw [H.out]; rfl, rfl⟩
    · have H := Lib.hid (show okD d = false from okD_not.2 (fun h => h2 h.2))
      go_enter Tryd.func35, Tryd.ntmps35
      go_wp2_with fail
      go_ret
      exact ⟨by rw [H.out]; rfl, rfl⟩
  · have H := Lib.hid (show okD d = false from okD_not.2 (fun h => h1 h.1))
    go_enter Tryd.func35, Tryd.ntmps35
    go_wp2_with fail
    go_ret
    exact ⟨by rw [H.out]; rfl, rfl⟩

set_option maxRecDepth 100000 in
set_option maxHeartbeats 4000000 in
theorem pLeap (y : Int) (w : World) : Calls Tryd.prog 20 #[.int .i64 y] w fun e w' => e = .returned (.bool (lpB y)) ∧ w = w' := by
  unfold lpB
  cases h4 : (y.tmod 4 == 0) <;> cases h1 : (y.tmod 100 == 0) <;> cases h0 : (y.tmod 400 == 0)
  all_goals
    have h3 : (y.tmod 100 != 0) = !(y.tmod 100 == 0) := rfl
    rw [h1] at h3
    rw [h3]
    go_enter Tryd.func20, Tryd.ntmps20
    go_wp2_with fail
    go_ret
    exact ⟨rfl, rfl⟩

set_option maxRecDepth 100000 in
set_option maxHeartbeats 8000000 in
theorem pLen (y m L : Int) (w : World) (hG : Ground w) (h1 : 1 ≤ m) (h2 : m ≤ 12) (hL : L = lenI y m) : Calls Tryd.prog 38 #[.int .i64 y, .int .i64 m] w fun e w' => e = .returned (.int .i64 L) ∧ w = w' := by
  have hm : m = 1 ∨ m = 2 ∨ m = 3 ∨ m = 4 ∨ m = 5 ∨ m = 6 ∨ m = 7 ∨ m = 8 ∨ m = 9 ∨ m = 10 ∨ m = 11 ∨ m = 12 := by omega
  have HM := fun i hi => hG.month i hi
  unfold lenI at hL
  obtain ⟨l, hl⟩ : ∃ l, lpB y = l := ⟨_, rfl⟩
  have HLP := Lib.hid (fun w => pLeap y w)
  rw [hl] at hL HLP
  clear h1 h2 hl hG
  rcases hm with rfl | rfl | rfl | rfl | rfl | rfl | rfl | rfl | rfl | rfl | rfl | rfl
  · have hc := HM 0 (by decide)
    change _ = some (Value.int .i64 31) at hc
    clear HM
    clear HLP
    have HL := Lib.hid hL
    clear hL
    go_enter Tryd.func38, Tryd.ntmps38
    go_wp2_with fail
    go_ret
    exact ⟨by rw [HL.out]; rfl, rfl⟩
  · have hc := HM 1 (by decide)
    change _ = some (Value.int .i64 28) at hc
    clear HM
    cases l
    all_goals
      have HL := Lib.hid hL
      clear hL
      go_enter Tryd.func38, Tryd.ntmps38
      go_wp2_with fail
      refine (HLP.out _).mono ?_
      rintro _ _ ⟨rfl, rfl⟩
      go_wp2_with fail
      go_ret
      exact ⟨by rw [HL.out]; rfl, rfl⟩
  · have hc := HM 2 (by decide)
    change _ = some (Value.int .i64 31) at hc
    clear HM
    clear HLP
    have HL := Lib.hid hL
    clear hL
    go_enter Tryd.func38, Tryd.ntmps38
    go_wp2_with fail
    go_ret
    exact ⟨by rw [HL.out]; rfl, rfl⟩
  · have hc := HM 3 (by decide)
    change _ = some (Value.int .i64 30) at hc
    clear HM
    clear HLP
    have HL := Lib.hid hL
    clear hL
    go_enter Tryd.func38, Tryd.ntmps38
    go_wp2_with fail
    go_ret
    exact ⟨by rw [HL.out]; rfl, rfl⟩
  · have hc := HM 4 (by decide)
    change _ = some (Value.int .i64 31) at hc
    clear HM
    clear HLP
    have HL := Lib.hid hL
    clear hL
    go_enter Tryd.func38, Tryd.ntmps38
    go_wp2_with fail
    go_ret
    exact ⟨by rw [HL.out]; rfl, rfl⟩
  · have hc := HM 5 (by decide)
    change _ = some (Value.int .i64 30) at hc
    clear HM
    clear HLP
    have HL := Lib.hid hL
    clear hL
    go_enter Tryd.func38, Tryd.ntmps38
    go_wp2_with fail
    go_ret
    exact ⟨by rw [HL.out]; rfl, rfl⟩
  · have hc := HM 6 (by decide)
    change _ = some (Value.int .i64 31) at hc
    clear HM
    clear HLP
    have HL := Lib.hid hL
    clear hL
    go_enter Tryd.func38, Tryd.ntmps38
    go_wp2_with fail
    go_ret
    exact ⟨by rw [HL.out]; rfl, rfl⟩
  · have hc := HM 7 (by decide)
    change _ = some (Value.int .i64 31) at hc
    clear HM
    clear HLP
    have HL := Lib.hid hL
    clear hL
    go_enter Tryd.func38, Tryd.ntmps38
    go_wp2_with fail
    go_ret
    exact ⟨by rw [HL.out]; rfl, rfl⟩
  · have hc := HM 8 (by decide)
    change _ = some (Value.int .i64 30) at hc
    clear HM
    clear HLP
    have HL := Lib.hid hL
    clear hL
    go_enter Tryd.func38, Tryd.ntmps38
    go_wp2_with fail
    go_ret
    exact ⟨by rw [HL.out]; rfl, rfl⟩
  · have hc := HM 9 (by decide)
    change _ = some (Value.int .i64 31) at hc
    clear HM
    clear HLP
    have HL := Lib.hid hL
    clear hL
    go_enter Tryd.func38, Tryd.ntmps38
    go_wp2_with fail
    go_ret
    exact ⟨by rw [HL.out]; rfl, rfl⟩
  · have hc := HM 10 (by decide)
    change _ = some (Value.int .i64 30) at hc
    clear HM
    clear HLP
    have HL := Lib.hid hL
    clear hL
    go_enter Tryd.func38, Tryd.ntmps38
    go_wp2_with fail
    go_ret
    exact ⟨by rw [HL.out]; rfl, rfl⟩
  · have hc := HM 11 (by decide)
    change _ = some (Value.int .i64 31) at hc
    clear HM
    clear HLP
    have HL := Lib.hid hL
    clear hL
    go_enter Tryd.func38, Tryd.ntmps38
    go_wp2_with fail
    go_ret
    exact ⟨by rw [HL.out]; rfl, rfl⟩

set_option maxRecDepth 100000 in
set_option maxHeartbeats 4000000 in
theorem pLps (y r : Int) (w : World) (h1 : 1 ≤ y) (h2 : y ≤ 10000) (hr : r = lpsI y) : Calls Tryd.prog 50 #[.int .i64 y] w fun e w' => e = .returned (.int .i64 r) ∧ w = w' := by
  have HR := Lib.hid hr
  clear hr
  go_enter Tryd.func50, Tryd.ntmps50
  go_wp2_with fail
  go_ret
  exact ⟨by rw [HR.out]; rfl, rfl⟩

set_option maxRecDepth 100000 in
set_option maxHeartbeats 4000000 in
theorem pNew (y r : Int) (w : World) (h1 : 1 ≤ y) (h2 : y ≤ 10000) (hr : r = nyI y) : Calls Tryd.prog 44 #[.int .i64 y] w fun e w' => e = .returned (.int .i64 r) ∧ w = w' := by
  obtain ⟨l, hl⟩ : ∃ l, l = lpsI y := ⟨_, rfl⟩
  have hb : -1000 ≤ l ∧ l ≤ 10000 := by rw [hl]; unfold lpsI; omega
  obtain ⟨hb1, hb2⟩ := hb
  have HLP := Lib.hid (fun w => pLps y l w h1 h2 hl)
  have H70 := Lib.hid (fun w => pLps 1970 477 w (by decide) (by decide) (by decide))
  have HR := Lib.hid (show r = 365 * (y - 1970) + l - 477 by rw [hr, hl]; rfl)
  clear hr hl
  go_enter Tryd.func44, Tryd.ntmps44
  go_wp2_with fail
  refine (HLP.out _).mono ?_
  rintro _ _ ⟨rfl, rfl⟩
  go_wp2_with fail
  refine (H70.out _).mono ?_
  rintro _ _ ⟨rfl, rfl⟩
  go_wp2_with fail
  go_ret
  exact ⟨by rw [HR.out]; rfl, rfl⟩

end Go.Proofs.YtgpjadlnfofppaaDoor
