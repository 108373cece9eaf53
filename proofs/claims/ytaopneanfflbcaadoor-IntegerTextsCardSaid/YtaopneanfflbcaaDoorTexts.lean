/- the law IntegerTexts: the walk. -/
import Derived.Test.YtaopneanfflbcaaDoorLaw
namespace Go.Proofs.YtaopneanfflbcaaDoor
open Go.RowKit

set_option maxRecDepth 100000 in
set_option maxHeartbeats 4000000 in
theorem texts_any (a s : ByteArray) (w : World) (hG : Ground w) :
    Calls Tryd.prog 11 #[.string a, .string s] w fun e w' => e = .returned (.bool true) ∧ Below w.heap.size w w' := by
  by_cases ha : a.size ≤ 60
  · have HA := Lib.hid ha
    have hl : long [a] = false := long_false (by simpa using ha)
    have HL := Lib.hid hl
    clear hl
    go_enter Tryd.func11, Tryd.ntmps11
    go_wp2_with fail
    obtain ⟨W0, hW0⟩ : ∃ W0, W0 = w.alloc (.cells #[.string a] 22) := ⟨_, rfl⟩
    have hc0 : ∀ i, i < 1 → W0.cell? ⟨w.heap.size, i, none⟩ = some (.string ([a].getD i ⟨#[]⟩)) := by rw [hW0]; exact great_cells w [a]
    have hB : Below w.heap.size w W0 := by rw [hW0]; exact (Below.refl _ w).alloc (Nat.le_refl _) _
    rw [← hW0]
    clear hW0
    refine (great_any W0 w.heap.size 1 [a] rfl (by decide) hc0).mono ?_
    rintro e _ ⟨rfl, rfl⟩
    clear hc0
    rw [HL.out]
    by_cases hs : (60 : Int) < s.size
    · go_wp2_with fail
      refine (awake_any W0 (hG.below hB)).mono ?_
      rintro e w1 ⟨rfl, h⟩
      replace hB := hB.trans (h.mono hB.size)
      clear h
      go_wp2_with fail
      go_ret
      exact ⟨rfl, hB⟩
    · have hs2 : s.size ≤ 60 := by omega
      have HS := Lib.hid hs2
      have hp1 : (pS (vS a)).size ≤ 65536 := by have := pS_length (vS a); have := cS_vS_size a; omega
      have HP1 := Lib.hid hp1
      clear hp1
      go_wp2_with fail
      refine (print_any a W0 (Nat.le_trans HA.out (by decide))).mono ?_
      rintro e _ ⟨rfl, rfl⟩
      go_wp2_with fail
      refine (parse_ok (pS (vS a)) W0 HP1.out (isText_pS _)).mono ?_
      rintro e _ ⟨rfl, rfl⟩
      rw [vS_pS]
      go_wp2_with fail
      refine (canonical_any a W0 (Nat.le_trans HA.out (by decide))).mono ?_
      rintro e _ ⟨rfl, rfl⟩
      go_wp2_with fail
      cases ht : isText s
      · refine (parse_bad s W0 (Nat.le_trans HS.out (by decide)) ht).mono ?_
        rintro e _ ⟨rfl, rfl⟩
        go_wp2_with fail
        refine (awake_any W0 (hG.below hB)).mono ?_
        rintro e w1 ⟨rfl, h⟩
        replace hB := hB.trans (h.mono hB.size)
        clear h
        go_wp2_with fail
        go_ret
        exact ⟨rfl, hB⟩
      · have hps : pS (vS s) = s := of_decide_eq_true ht
        have HPS := Lib.hid hps
        clear hps
        have hcs : (cS (vS s)).size ≤ 4294967296 := by have := cS_vS_size s; omega
        have HCS := Lib.hid hcs
        clear hcs
        refine (parse_ok s W0 (Nat.le_trans HS.out (by decide)) ht).mono ?_
        rintro e _ ⟨rfl, rfl⟩
        go_wp2_with fail
        refine (print_any (cS (vS s)) W0 HCS.out).mono ?_
        rintro e _ ⟨rfl, rfl⟩
        rw [vS_cS, HPS.out]
        go_wp2_with fail
        refine (check_any (cS (vS s)) W0 HCS.out).mono ?_
        rintro e _ ⟨rfl, rfl⟩
        rw [chk_cS]
        go_wp2_with fail
        refine (awake_any W0 (hG.below hB)).mono ?_
        rintro e w1 ⟨rfl, h⟩
        replace hB := hB.trans (h.mono hB.size)
        clear h
        go_wp2_with fail
        go_ret
        exact ⟨rfl, hB⟩
  · have hl : long [a] = true := long_true (s := a) (by simp) (by omega)
    have HL := Lib.hid hl
    clear hl
    go_enter Tryd.func11, Tryd.ntmps11
    go_wp2_with fail
    obtain ⟨W0, hW0⟩ : ∃ W0, W0 = w.alloc (.cells #[.string a] 22) := ⟨_, rfl⟩
    have hc0 : ∀ i, i < 1 → W0.cell? ⟨w.heap.size, i, none⟩ = some (.string ([a].getD i ⟨#[]⟩)) := by rw [hW0]; exact great_cells w [a]
    have hB : Below w.heap.size w W0 := by rw [hW0]; exact (Below.refl _ w).alloc (Nat.le_refl _) _
    rw [← hW0]
    clear hW0
    refine (great_any W0 w.heap.size 1 [a] rfl (by decide) hc0).mono ?_
    rintro e _ ⟨rfl, rfl⟩
    clear hc0
    rw [HL.out]
    go_wp2_with fail
    refine (awake_any W0 (hG.below hB)).mono ?_
    rintro e w1 ⟨rfl, h⟩
    replace hB := hB.trans (h.mono hB.size)
    clear h
    go_wp2_with fail
    go_ret
    exact ⟨rfl, hB⟩

end Go.Proofs.YtaopneanfflbcaaDoor
