/- Layer 6, the laws' own functions: valid, awake: the walks. -/
import Derived.Test.YtgpjadlnfofppaaDoorYwh
import Derived.Test.YtgpjadlnfofppaaDoorYrb
namespace Go.Proofs.YtgpjadlnfofppaaDoor
open Go.RowKit Dat

set_option maxRecDepth 100000 in
set_option maxHeartbeats 4000000 in
theorem lValid (d : Int) (w : World) : Calls Tryd.prog 31 #[.int .i64 d] w fun e w' => e = .returned (.bool (okD d)) ∧ w = w' := by
  by_cases h1 : -25567 ≤ d
  · by_cases h2 : d ≤ 84005
    · have H := Lib.hid (show okD d = true from okD_iff.2 ⟨h1, h2⟩)
      go_enter Tryd.func31, Tryd.ntmps31
      go_wp2_with fail
      go_ret
      exact ⟨by rw [H.out]; rfl, rfl⟩
    · have H := Lib.hid (show okD d = false from okD_not.2 (fun h => h2 h.2))
      go_enter Tryd.func31, Tryd.ntmps31
      go_wp2_with fail
      go_ret
      exact ⟨by rw [H.out]; rfl, rfl⟩
  · have H := Lib.hid (show okD d = false from okD_not.2 (fun h => h1 h.1))
    go_enter Tryd.func31, Tryd.ntmps31
    go_wp2_with fail
    go_ret
    exact ⟨by rw [H.out]; rfl, rfl⟩

/-- a date and its day -/
theorem date_at {d y m t : Int} (h : ofR y m t = (d, 0)) : okD d = true ∧ y = yr (ix d) ∧ m = mn (ix d) ∧ t = dy (ix d) ∧ 12 * y + m - 1 = 22800 + mo (ix d) := by
  unfold ofR at h
  cases ho : okT y m t with
  | false => rw [ho, if_neg (by decide)] at h; exact absurd (Prod.mk.inj h).2 (by decide)
  | true =>
    rw [ho, if_pos rfl] at h
    have hd := (Prod.mk.inj h).1
    obtain ⟨a1, a2, a3, a4, a5, a6⟩ := of_decide_eq_true ho
    obtain ⟨k, hk⟩ : ∃ k : Nat, 12 * y + (m - 1) = 22800 + k := ⟨(12 * y + (m - 1) - 22800).toNat, by omega⟩
    have e1 := first_day a1 a3 (by omega) hk
    have e2 := lenI_ml a1 a3 a4 hk
    have e3 := st_succ k
    have e4 := st_small (k := k + 1) (by omega)
    have hok : okD d = true := okD_iff.2 (by omega)
    have hx := ix_is hok
    have hp := parts_at (n := ix d) a1 a3 a4 (by omega) (by omega)
    have hm := yr_mn (ix d)
    refine ⟨hok, hp.1, hp.2.1, ?_, ?_⟩
    · rw [← hp.2.2]; omega
    · rw [hp.1, hp.2.1]; exact hm
theorem print_at {d y m t : Int} {Y M T : Nat} (h : ofR y m t = (d, 0)) (hY : y = Y) (hM : m = M) (hT : t = T) : printR d = (⟨(txt Y M T).toArray⟩, 0) := by
  obtain ⟨h1, h2, h3, h4, _⟩ := date_at h
  unfold printR
  rw [if_pos h1, show yr (ix d) = Y by omega, show mn (ix d) = M by omega, show dy (ix d) = T by omega]
theorem add_at {d y m t n : Int} (h : ofR y m t = (d, 0)) (n1 : -4800 ≤ n) (n2 : n ≤ 4800) (k1 : 22800 ≤ 12 * y + m - 1 + n) (k2 : 12 * y + m - 1 + n < 26400) :
    addR d n = ofR ((12 * y + m - 1 + n) / 12) ((12 * y + m - 1 + n) % 12 + 1) (min t (lenI ((12 * y + m - 1 + n) / 12) ((12 * y + m - 1 + n) % 12 + 1))) := by
  obtain ⟨h1, h2, h3, h4, h5⟩ := date_at h
  exact addR_of h1 n1 n2 h4 (by have := dy_pos (ix d); omega) h5 k1 k2
theorem sh_at {d y m t n : Int} (h : ofR y m t = (d, 0)) : shI (ix d) n = nyI ((12 * y + m - 1 + n) / 12) + cumI ((12 * y + m - 1 + n) / 12) ((12 * y + m - 1 + n) % 12 + 1) + min t (lenI ((12 * y + m - 1 + n) / 12) ((12 * y + m - 1 + n) % 12 + 1)) - 1 := by
  obtain ⟨h1, h2, h3, h4, h5⟩ := date_at h
  unfold shI
  rw [← h5, ← h4]
theorem aw_of : ofR 2024 3 31 = (19813, 0) := by decide
theorem aw_jan : ofR 2024 1 31 = (19753, 0) := by decide
theorem aw_feb : ofR 2024 2 29 = (19782, 0) := by decide
theorem aw_wd : wdR 19813 = (6, 0) := by decide
theorem aw_add : addR 19813 1 = (19843, 0) := by
  rw [add_at aw_of (by decide) (by decide) (by decide) (by decide)]
  decide
theorem aw_sub : addR 19813 (-1) = (19782, 0) := by
  rw [add_at aw_of (by decide) (by decide) (by decide) (by decide)]
  decide
theorem aw_print : printR 19782 = (⟨#[50, 48, 50, 52, 45, 48, 50, 45, 50, 57]⟩, 0) := print_at (Y := 2024) (M := 2) (T := 29) aw_feb rfl rfl rfl
theorem aw_mon : monR 19753 19782 = (1, 0) := by
  obtain ⟨a1, _, _, _, a5⟩ := date_at aw_jan
  obtain ⟨b1, _, _, _, b5⟩ := date_at aw_feb
  rw [monR_le a1 b1 (by decide), months_sh a1 b1 (by decide), show (mo (ix 19782) : Int) - mo (ix 19753) = 1 by omega, sh_at aw_jan]
  decide

set_option maxRecDepth 100000 in
set_option maxHeartbeats 16000000 in
theorem awake_any (w : World) (hG : Ground w) : Calls Tryd.prog 22 #[] w fun e w' => e = .returned (.bool true) ∧ Below w.heap.size w w' := by
  have H1 := Lib.hid (fun w (hG : Ground w) => pOf 2024 3 31 19813 0 w hG aw_of)
  have H2 := Lib.hid (fun w (hG : Ground w) => pWd 19813 6 0 w hG aw_wd)
  have H3 := Lib.hid (fun w (hG : Ground w) => pAdd 19813 1 19843 0 w hG aw_add)
  have H4 := Lib.hid (fun w (hG : Ground w) => pAdd 19813 (-1) 19782 0 w hG aw_sub)
  have H5 := Lib.hid (fun w (hG : Ground w) => pPrint 19782 _ 0 w hG aw_print)
  have H6 := Lib.hid (fun w (hG : Ground w) => pMon 19753 19782 1 0 w hG aw_mon)
  have HG := Lib.hid hG
  clear hG
  go_enter Tryd.func22, Tryd.ntmps22
  go_wp2_with fail
  refine (H1.out _ HG.out).mono ?_
  rintro _ _ ⟨rfl, rfl⟩
  go_wp2_with fail
  refine (H2.out _ HG.out).mono ?_
  rintro _ _ ⟨rfl, rfl⟩
  go_wp2_with fail
  refine (H3.out _ HG.out).mono ?_
  rintro _ _ ⟨rfl, rfl⟩
  go_wp2_with fail
  refine (H4.out _ HG.out).mono ?_
  rintro _ _ ⟨rfl, rfl⟩
  go_wp2_with fail
  refine (H5.out _ HG.out).mono ?_
  rintro _ w1 ⟨rfl, hB⟩
  have HB := Lib.hid hB
  have HG1 := Lib.hid (HG.out.below hB)
  clear hB
  go_wp2_with fail
  refine (H6.out _ HG1.out).mono ?_
  rintro _ _ ⟨rfl, rfl⟩
  go_wp2_with fail
  go_ret
  exact ⟨rfl, HB.out⟩

end Go.Proofs.YtgpjadlnfofppaaDoor
