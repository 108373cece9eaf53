/- Layer 6, the program: Parse: the walk. -/
import Derived.Test.YtgpjadlnfofppaaDoorYwg
namespace Go.Proofs.YtgpjadlnfofppaaDoor
open Go.RowKit Dat

/-! ### Parse -/
noncomputable def parseR (s : ByteArray) : Int × Int :=
  open Classical in if formP s then ofR (numI (s.extract 0 (0 + 4)).data.toList) (numI (s.extract 5 (5 + 2)).data.toList) (numI (s.extract 8 (8 + 2)).data.toList) else (0, 3)
theorem parseR_ok {s : ByteArray} (h : formP s) : parseR s = ofR (numI (s.extract 0 (0 + 4)).data.toList) (numI (s.extract 5 (5 + 2)).data.toList) (numI (s.extract 8 (8 + 2)).data.toList) := by unfold parseR; rw [if_pos h]
theorem parseR_bad {s : ByteArray} (h : ¬ formP s) : parseR s = (0, 3) := by unfold parseR; rw [if_neg h]
set_option maxRecDepth 100000 in
set_option maxHeartbeats 8000000 in
theorem pParse (s : ByteArray) (a e : Int) (w : World) (hG : Ground w) (h : parseR s = (a, e)) :
    Calls Tryd.prog 29 #[.string s] w fun r w' => r = .returned (.tuple #[.int .i64 a, .int .i64 e]) ∧ Below w.heap.size w w' := by
  have hr := pRead s w
  unfold ReadP at hr
  have HG := Lib.hid hG
  obtain ⟨y, hy⟩ : ∃ y, numI (s.extract 0 (0 + 4)).data.toList = y := ⟨_, rfl⟩
  obtain ⟨m, hm⟩ : ∃ m, numI (s.extract 5 (5 + 2)).data.toList = m := ⟨_, rfl⟩
  obtain ⟨d, hd⟩ : ∃ d, numI (s.extract 8 (8 + 2)).data.toList = d := ⟨_, rfl⟩
  rw [hy, hm, hd] at hr
  have HR := Lib.hid hr
  clear hr
  by_cases hf : formP s
  · rw [parseR_ok hf, hy, hm, hd] at h
    clear hy hm hd
    have HF := Lib.hid hf
    have HO := Lib.hid (fun w (hG : Ground w) => pOf _ _ _ a e w hG h)
    clear hG h hf
    go_enter Tryd.func29, Tryd.ntmps29
    go_wp2_with fail
    refine (HR.out).mono ?_
    rintro _ w1 ⟨hB, ⟨_, rfl⟩ | ⟨g, rfl⟩⟩
    case inr => exact absurd HF.out g
    have HB := Lib.hid hB
    clear hB
    go_wp2_with fail
    refine (HO.out _ (HG.out.below HB.out)).mono ?_
    rintro _ _ ⟨rfl, rfl⟩
    go_wp2_with fail
    go_ret2
    exact ⟨rfl, HB.out⟩
  · clear hy hm hd
    rw [parseR_bad hf] at h
    obtain ⟨rfl, rfl⟩ := Prod.mk.inj h
    have HF := Lib.hid hf
    clear hG h hf
    go_enter Tryd.func29, Tryd.ntmps29
    go_wp2_with fail
    refine (HR.out).mono ?_
    rintro _ w1 ⟨hB, ⟨g, rfl⟩ | ⟨_, rfl⟩⟩
    case inl => exact absurd g HF.out
    have HB := Lib.hid hB
    clear hB
    go_wp2_with fail
    go_ret2
    exact ⟨rfl, HB.out⟩

end Go.Proofs.YtgpjadlnfofppaaDoor
