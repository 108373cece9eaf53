/- the law FractionReads: the walk. -/
import Derived.Test.YtldohkfomdcpoaaGreatDoorME
import Derived.Deep.DeepCutAuto
import Derived.Laws.NewBlocks
namespace Go.Proofs.YtldohkfomdcpoaaGreatDoor
open Go.RowKit Fra

set_option maxRecDepth 100000 in
set_option maxHeartbeats 16000000 in
theorem freads_in (fn fd gn gd : ByteArray) (w : World) (hG : Ground w) (hf1 : fn.size ≤ 60) (hf2 : fd.size ≤ 60) (hg1 : gn.size ≤ 60) (hg2 : gd.size ≤ 60) :
    Calls Tryz.prog 3 #[.agg #[.string fn, .string fd], .agg #[.string gn, .string gd]] w fun e w' => e = .returned (.bool true) ∧ Below w.heap.size w w' := by
  have hl : flong 60 [(fn, fd), (gn, gd)] = false := flong_false (by simp; omega)
  have HL := Lib.hid hl
  clear hl
  obtain ⟨pu, pv, h1, h2⟩ := parts_both fn fd hf1 hf2
  have HP1 := Lib.hid h1
  have HP2 := Lib.hid h2
  clear h1 h2
  obtain ⟨nu, nv, nc, h1, h2⟩ := new_both fn gn hf1 hg1
  have HN1 := Lib.hid h1
  have HN2 := Lib.hid h2
  clear h1 h2
  obtain ⟨kc, h1, h2⟩ := check_both fn fd hf1 hf2
  have HK1 := Lib.hid h1
  have HK2 := Lib.hid h2
  clear h1 h2
  obtain ⟨ou, ov, h1, h2⟩ := of_both fn hf1
  have HO1 := Lib.hid h1
  have HO2 := Lib.hid h2
  clear h1 h2
  obtain ⟨cc, h1, h2⟩ := compare_both fn fd gn gd hf1 hf2 hg1 hg2
  have HC1 := Lib.hid h1
  have HC2 := Lib.hid h2
  clear h1 h2
  obtain ⟨fl, h1, h2⟩ := floor_both fn fd hf1 hf2
  have HFL1 := Lib.hid h1
  have HFL2 := Lib.hid h2
  clear h1 h2
  have HAW := Lib.hid awake_ret
  obtain ⟨W0, hW0⟩ : ∃ W0, W0 = (w.alloc (.cells #[.string fn, .string fd] 24)).alloc (.cells #[.string gn, .string gd] 24) := ⟨_, rfl⟩
  have hS : StL w W0 [(w.heap.size + 1, gn, gd), (w.heap.size, fn, fd)] := by rw [hW0]; exact StL.two hG _ _ _ _
  go_enter Tryz.func3, Tryz.ntmps3
  go_upto_region 1 with fail
  rw [← hW0]
  clear hW0
  obtain ⟨fp0, fp1, _⟩ := hS.box
  obtain ⟨fx0, fy0, _, _⟩ := fp0.cells
  obtain ⟨fx1, fy1, _, _⟩ := fp1.cells
  go_wp2_with fail
  obtain ⟨W1, hW1⟩ : ∃ W1, W1 = W0.alloc (.cells #[.string fn, .string fd, .string gn, .string gd] 24) := ⟨_, rfl⟩
  have hc0 : ∀ i, i < 2 → W1.cell? ⟨W0.heap.size, i * 2, none⟩ = some (.string ([(fn, fd), (gn, gd)].getD i (⟨#[]⟩, ⟨#[]⟩)).1) ∧ W1.cell? ⟨W0.heap.size, i * 2 + 1, none⟩ = some (.string ([(fn, fd), (gn, gd)].getD i (⟨#[]⟩, ⟨#[]⟩)).2) := by rw [hW1]; exact fgreat_cells W0 [(fn, fd), (gn, gd)]
  have hS1 : StL w W1 [(w.heap.size + 1, gn, gd), (w.heap.size, fn, fd)] := by rw [hW1]; exact hS.other _
  rw [← hW1]
  clear fp0 fx0 fy0 fp1 fx1 fy1
  clear hW1 hS
  have hS := hS1
  clear hS1
  refine (rGreat_any W1 W0.heap.size 2 [(fn, fd), (gn, gd)] rfl (by decide) hc0).mono ?_
  rintro _ _ ⟨rfl, rfl⟩
  clear hc0
  rw [HL.out]
  obtain ⟨fp0, fp1, _⟩ := hS.box
  obtain ⟨fx0, fy0, _, _⟩ := fp0.cells
  obtain ⟨fx1, fy1, _, _⟩ := fp1.cells
  go_wp2_with fail
  clear fp0 fx0 fy0 fp1 fx1 fy1
  refine Calls.mono (Ret.call HP1.out _ hS.g) ?_
  rintro _ w1 ⟨rfl, hB⟩
  replace hS := hS.next hB
  clear hB
  obtain ⟨fp0, fp1, _⟩ := hS.box
  obtain ⟨fx0, fy0, _, _⟩ := fp0.cells
  obtain ⟨fx1, fy1, _, _⟩ := fp1.cells
  go_wp2_with fail
  clear fp0 fx0 fy0 fp1 fx1 fy1
  refine Calls.mono (Ret.call HP2.out _ hS.g) ?_
  rintro _ w2 ⟨rfl, hB⟩
  replace hS := hS.next hB
  clear hB
  obtain ⟨fp0, fp1, _⟩ := hS.box
  obtain ⟨fx0, fy0, _, _⟩ := fp0.cells
  obtain ⟨fx1, fy1, _, _⟩ := fp1.cells
  go_wp2_with fail
  clear fp0 fx0 fy0 fp1 fx1 fy1
  refine Calls.mono (Ret.call HN1.out _ hS.g) ?_
  rintro _ w3 ⟨rfl, hB⟩
  replace hS := hS.next hB
  clear hB
  go_upto_region 6 with fail
  obtain ⟨b4, hb4⟩ : ∃ b, b = w3.heap.size := ⟨_, rfl⟩
  obtain ⟨V4, hV4⟩ : ∃ V, V = w3.alloc (.cells #[.string nu, .string nv] 24) := ⟨_, rfl⟩
  have hT : StL w V4 [(b4, nu, nv), (w.heap.size + 1, gn, gd), (w.heap.size, fn, fd)] := by rw [hV4, hb4]; exact hS.alloc _ _
  rw [← hb4, ← hV4]
  clear hV4 hb4 hS
  have hS := hT
  clear hT
  obtain ⟨fp0, fp1, fp2, _⟩ := hS.box
  obtain ⟨fx0, fy0, _, _⟩ := fp0.cells
  obtain ⟨fx1, fy1, _, _⟩ := fp1.cells
  obtain ⟨fx2, fy2, _, _⟩ := fp2.cells
  go_wp2_with fail
  clear fp0 fx0 fy0 fp1 fx1 fy1 fp2 fx2 fy2
  refine Calls.mono (Ret.call HN2.out _ hS.g) ?_
  rintro _ w5 ⟨rfl, hB⟩
  replace hS := hS.next hB
  clear hB
  go_upto_region 7 with fail
  obtain ⟨b6, hb6⟩ : ∃ b, b = w5.heap.size := ⟨_, rfl⟩
  obtain ⟨V6, hV6⟩ : ∃ V, V = w5.alloc (.cells #[.string nu, .string nv] 24) := ⟨_, rfl⟩
  have hT : StL w V6 [(b6, nu, nv), (b4, nu, nv), (w.heap.size + 1, gn, gd), (w.heap.size, fn, fd)] := by rw [hV6, hb6]; exact hS.alloc _ _
  rw [← hb6, ← hV6]
  clear hV6 hb6 hS
  have hS := hT
  clear hT
  obtain ⟨fp0, fp1, fp2, fp3, _⟩ := hS.box
  obtain ⟨fx0, fy0, _, _⟩ := fp0.cells
  obtain ⟨fx1, fy1, _, _⟩ := fp1.cells
  obtain ⟨fx2, fy2, _, _⟩ := fp2.cells
  obtain ⟨fx3, fy3, _, _⟩ := fp3.cells
  have hgu := frac_guards
  have heq := frac_same
  try go_upto_region 7 with fail
  have HS := Lib.hid hS
  clear hS
  go_cut [4] (fun s4 wx => s4 = .bool true ∧ StL w wx [(b6, nu, nv), (b4, nu, nv), (w.heap.size + 1, gn, gd), (w.heap.size, fn, fd)])
  case first =>
    go_region_held3 (fun w' => w'.cell? ⟨b6, 0, none⟩ = some (.string nu) ∧ w'.cell? ⟨b6, 1, none⟩ = some (.string nv) ∧ w'.cell? ⟨b4, 0, none⟩ = some (.string nu) ∧ w'.cell? ⟨b4, 1, none⟩ = some (.string nv) ∧ w'.cell? ⟨w.heap.size + 1, 0, none⟩ = some (.string gn) ∧ w'.cell? ⟨w.heap.size + 1, 1, none⟩ = some (.string gd) ∧ w'.cell? ⟨w.heap.size, 0, none⟩ = some (.string fn) ∧ w'.cell? ⟨w.heap.size, 1, none⟩ = some (.string fd))
      (go_keep)
      (first
    | (go_at_call 12;
         (first
           | (with_reducible refine Calls.mono (Ret.call HK1.out _ (by first | exact HS.out.g | exact HS.out.drew.g | exact (HS.out.drewN _).g)) ?_));
         (rintro e WX ⟨rfl, hB1⟩);
         (have HS2 : StL w WX [(b6, nu, nv), (b4, nu, nv), (w.heap.size + 1, gn, gd), (w.heap.size, fn, fd)] := (by first | exact HS.out.next hB1 | exact HS.out.next1 hB1 | exact HS.out.nextD hB1));
         (replace HS := Lib.hid HS2);
         (clear hB1 HS2);
         (obtain ⟨fp0, fp1, fp2, fp3, _⟩ := HS.out.box);
         (obtain ⟨fx0, fy0, _, _⟩ := fp0.cells);
         (obtain ⟨fx1, fy1, _, _⟩ := fp1.cells);
         (obtain ⟨fx2, fy2, _, _⟩ := fp2.cells);
         (obtain ⟨fx3, fy3, _, _⟩ := fp3.cells))
    | (go_at_call 13;
         (first
           | (with_reducible refine Calls.mono (Ret.call HK2.out _ (by first | exact HS.out.g | exact HS.out.drew.g | exact (HS.out.drewN _).g)) ?_));
         (rintro e WX ⟨rfl, hB1⟩);
         (have HS2 : StL w WX [(b6, nu, nv), (b4, nu, nv), (w.heap.size + 1, gn, gd), (w.heap.size, fn, fd)] := (by first | exact HS.out.next hB1 | exact HS.out.next1 hB1 | exact HS.out.nextD hB1));
         (replace HS := Lib.hid HS2);
         (clear hB1 HS2);
         (obtain ⟨fp0, fp1, fp2, fp3, _⟩ := HS.out.box);
         (obtain ⟨fx0, fy0, _, _⟩ := fp0.cells);
         (obtain ⟨fx1, fy1, _, _⟩ := fp1.cells);
         (obtain ⟨fx2, fy2, _, _⟩ := fp2.cells);
         (obtain ⟨fx3, fy3, _, _⟩ := fp3.cells))
    | (go_at_call 14;
         (first
           | (with_reducible refine Calls.mono (Ret.call HO1.out _ (by first | exact HS.out.g | exact HS.out.drew.g | exact (HS.out.drewN _).g)) ?_));
         (rintro e WX ⟨rfl, hB1⟩);
         (have HS2 : StL w WX [(b6, nu, nv), (b4, nu, nv), (w.heap.size + 1, gn, gd), (w.heap.size, fn, fd)] := (by first | exact HS.out.next hB1 | exact HS.out.next1 hB1 | exact HS.out.nextD hB1));
         (replace HS := Lib.hid HS2);
         (clear hB1 HS2);
         (obtain ⟨fp0, fp1, fp2, fp3, _⟩ := HS.out.box);
         (obtain ⟨fx0, fy0, _, _⟩ := fp0.cells);
         (obtain ⟨fx1, fy1, _, _⟩ := fp1.cells);
         (obtain ⟨fx2, fy2, _, _⟩ := fp2.cells);
         (obtain ⟨fx3, fy3, _, _⟩ := fp3.cells))
    | (go_at_call 15;
         (first
           | (with_reducible refine Calls.mono (Ret.call HO2.out _ (by first | exact HS.out.g | exact HS.out.drew.g | exact (HS.out.drewN _).g)) ?_));
         (rintro e WX ⟨rfl, hB1⟩);
         (have HS2 : StL w WX [(b6, nu, nv), (b4, nu, nv), (w.heap.size + 1, gn, gd), (w.heap.size, fn, fd)] := (by first | exact HS.out.next hB1 | exact HS.out.next1 hB1 | exact HS.out.nextD hB1));
         (replace HS := Lib.hid HS2);
         (clear hB1 HS2);
         (obtain ⟨fp0, fp1, fp2, fp3, _⟩ := HS.out.box);
         (obtain ⟨fx0, fy0, _, _⟩ := fp0.cells);
         (obtain ⟨fx1, fy1, _, _⟩ := fp1.cells);
         (obtain ⟨fx2, fy2, _, _⟩ := fp2.cells);
         (obtain ⟨fx3, fy3, _, _⟩ := fp3.cells))
    | (go_at_call 16;
         (first
           | (with_reducible refine Calls.mono (Ret.call HC1.out _ (by first | exact HS.out.g | exact HS.out.drew.g | exact (HS.out.drewN _).g)) ?_));
         (rintro e WX ⟨rfl, hB1⟩);
         (have HS2 : StL w WX [(b6, nu, nv), (b4, nu, nv), (w.heap.size + 1, gn, gd), (w.heap.size, fn, fd)] := (by first | exact HS.out.next hB1 | exact HS.out.next1 hB1 | exact HS.out.nextD hB1));
         (replace HS := Lib.hid HS2);
         (clear hB1 HS2);
         (obtain ⟨fp0, fp1, fp2, fp3, _⟩ := HS.out.box);
         (obtain ⟨fx0, fy0, _, _⟩ := fp0.cells);
         (obtain ⟨fx1, fy1, _, _⟩ := fp1.cells);
         (obtain ⟨fx2, fy2, _, _⟩ := fp2.cells);
         (obtain ⟨fx3, fy3, _, _⟩ := fp3.cells))
    | (go_at_call 17;
         (first
           | (with_reducible refine Calls.mono (Ret.call HC2.out _ (by first | exact HS.out.g | exact HS.out.drew.g | exact (HS.out.drewN _).g)) ?_));
         (rintro e WX ⟨rfl, hB1⟩);
         (have HS2 : StL w WX [(b6, nu, nv), (b4, nu, nv), (w.heap.size + 1, gn, gd), (w.heap.size, fn, fd)] := (by first | exact HS.out.next hB1 | exact HS.out.next1 hB1 | exact HS.out.nextD hB1));
         (replace HS := Lib.hid HS2);
         (clear hB1 HS2);
         (obtain ⟨fp0, fp1, fp2, fp3, _⟩ := HS.out.box);
         (obtain ⟨fx0, fy0, _, _⟩ := fp0.cells);
         (obtain ⟨fx1, fy1, _, _⟩ := fp1.cells);
         (obtain ⟨fx2, fy2, _, _⟩ := fp2.cells);
         (obtain ⟨fx3, fy3, _, _⟩ := fp3.cells))
    | (go_at_call 18;
         (first
           | (with_reducible refine Calls.mono (Ret.call HFL1.out _ (by first | exact HS.out.g | exact HS.out.drew.g | exact (HS.out.drewN _).g)) ?_));
         (rintro e WX ⟨rfl, hB1⟩);
         (have HS2 : StL w WX [(b6, nu, nv), (b4, nu, nv), (w.heap.size + 1, gn, gd), (w.heap.size, fn, fd)] := (by first | exact HS.out.next hB1 | exact HS.out.next1 hB1 | exact HS.out.nextD hB1));
         (replace HS := Lib.hid HS2);
         (clear hB1 HS2);
         (obtain ⟨fp0, fp1, fp2, fp3, _⟩ := HS.out.box);
         (obtain ⟨fx0, fy0, _, _⟩ := fp0.cells);
         (obtain ⟨fx1, fy1, _, _⟩ := fp1.cells);
         (obtain ⟨fx2, fy2, _, _⟩ := fp2.cells);
         (obtain ⟨fx3, fy3, _, _⟩ := fp3.cells))
    | (go_at_call 19;
         (first
           | (with_reducible refine Calls.mono (Ret.call HFL2.out _ (by first | exact HS.out.g | exact HS.out.drew.g | exact (HS.out.drewN _).g)) ?_));
         (rintro e WX ⟨rfl, hB1⟩);
         (have HS2 : StL w WX [(b6, nu, nv), (b4, nu, nv), (w.heap.size + 1, gn, gd), (w.heap.size, fn, fd)] := (by first | exact HS.out.next hB1 | exact HS.out.next1 hB1 | exact HS.out.nextD hB1));
         (replace HS := Lib.hid HS2);
         (clear hB1 HS2);
         (obtain ⟨fp0, fp1, fp2, fp3, _⟩ := HS.out.box);
         (obtain ⟨fx0, fy0, _, _⟩ := fp0.cells);
         (obtain ⟨fx1, fy1, _, _⟩ := fp1.cells);
         (obtain ⟨fx2, fy2, _, _⟩ := fp2.cells);
         (obtain ⟨fx3, fy3, _, _⟩ := fp3.cells))
    | (go_at_call 7;
         (first
           | (with_reducible refine Calls.mono (Ret.call HAW.out _ (by first | exact HS.out.g | exact HS.out.drew.g | exact (HS.out.drewN _).g)) ?_));
         (rintro e WX ⟨rfl, hB1⟩);
         (have HS2 : StL w WX [(b6, nu, nv), (b4, nu, nv), (w.heap.size + 1, gn, gd), (w.heap.size, fn, fd)] := (by first | exact HS.out.next hB1 | exact HS.out.next1 hB1 | exact HS.out.nextD hB1));
         (replace HS := Lib.hid HS2);
         (clear hB1 HS2);
         (obtain ⟨fp0, fp1, fp2, fp3, _⟩ := HS.out.box);
         (obtain ⟨fx0, fy0, _, _⟩ := fp0.cells);
         (obtain ⟨fx1, fy1, _, _⟩ := fp1.cells);
         (obtain ⟨fx2, fy2, _, _⟩ := fp2.cells);
         (obtain ⟨fx3, fy3, _, _⟩ := fp3.cells)))
    all_goals go_wp2_with fail
    all_goals go_meet
    all_goals exact ⟨rfl, (by first | exact HS.out | exact HS.out.drew | exact HS.out.drewN _)⟩
  clear HS
  clear fp0 fx0 fy0 fp1 fx1 fy1 fp2 fx2 fy2 fp3 fx3 fy3
  obtain ⟨rfl, hS⟩ := hcut
  obtain ⟨w7, hw⟩ : ∃ W, W = wc := ⟨_, rfl⟩
  rw [← hw] at hS
  rw [← hw]
  clear hw
  go_wp2_with fail
  go_ret
  exact ⟨rfl, hS.below⟩

set_option maxRecDepth 100000 in
set_option maxHeartbeats 16000000 in
theorem freads_long (fn fd gn gd : ByteArray) (w : World) (hG : Ground w) (hl : flong 60 [(fn, fd), (gn, gd)] = true) :
    Calls Tryz.prog 3 #[.agg #[.string fn, .string fd], .agg #[.string gn, .string gd]] w fun e w' => e = .returned (.bool true) ∧ Below w.heap.size w w' := by
  have HL := Lib.hid hl
  clear hl
  obtain ⟨W0, hW0⟩ : ∃ W0, W0 = (w.alloc (.cells #[.string fn, .string fd] 24)).alloc (.cells #[.string gn, .string gd] 24) := ⟨_, rfl⟩
  have hS : StL w W0 [(w.heap.size + 1, gn, gd), (w.heap.size, fn, fd)] := by rw [hW0]; exact StL.two hG _ _ _ _
  go_enter Tryz.func3, Tryz.ntmps3
  go_upto_region 1 with fail
  rw [← hW0]
  clear hW0
  obtain ⟨fp0, fp1, _⟩ := hS.box
  obtain ⟨fx0, fy0, _, _⟩ := fp0.cells
  obtain ⟨fx1, fy1, _, _⟩ := fp1.cells
  go_wp2_with fail
  obtain ⟨W1, hW1⟩ : ∃ W1, W1 = W0.alloc (.cells #[.string fn, .string fd, .string gn, .string gd] 24) := ⟨_, rfl⟩
  have hc0 : ∀ i, i < 2 → W1.cell? ⟨W0.heap.size, i * 2, none⟩ = some (.string ([(fn, fd), (gn, gd)].getD i (⟨#[]⟩, ⟨#[]⟩)).1) ∧ W1.cell? ⟨W0.heap.size, i * 2 + 1, none⟩ = some (.string ([(fn, fd), (gn, gd)].getD i (⟨#[]⟩, ⟨#[]⟩)).2) := by rw [hW1]; exact fgreat_cells W0 [(fn, fd), (gn, gd)]
  have hS1 : StL w W1 [(w.heap.size + 1, gn, gd), (w.heap.size, fn, fd)] := by rw [hW1]; exact hS.other _
  rw [← hW1]
  clear fp0 fx0 fy0 fp1 fx1 fy1
  clear hW1 hS
  have hS := hS1
  clear hS1
  refine (rGreat_any W1 W0.heap.size 2 [(fn, fd), (gn, gd)] rfl (by decide) hc0).mono ?_
  rintro _ _ ⟨rfl, rfl⟩
  clear hc0
  rw [HL.out]
  obtain ⟨fp0, fp1, _⟩ := hS.box
  obtain ⟨fx0, fy0, _, _⟩ := fp0.cells
  obtain ⟨fx1, fy1, _, _⟩ := fp1.cells
  go_wp2_with fail
  clear fp0 fx0 fy0 fp1 fx1 fy1
  refine Calls.mono (fawake_any _ hS.g) ?_
  rintro _ w1 ⟨rfl, hB⟩
  replace hS := hS.next hB
  clear hB
  obtain ⟨fp0, fp1, _⟩ := hS.box
  obtain ⟨fx0, fy0, _, _⟩ := fp0.cells
  obtain ⟨fx1, fy1, _, _⟩ := fp1.cells
  go_wp2_with fail
  go_ret
  exact ⟨rfl, hS.below⟩

theorem freads_any (fn fd gn gd : ByteArray) (w : World) (hG : Ground w) :
    Calls Tryz.prog 3 #[.agg #[.string fn, .string fd], .agg #[.string gn, .string gd]] w fun e w' => e = .returned (.bool true) ∧ Below w.heap.size w w' := by
  by_cases hf : fn.size ≤ 60 ∧ fd.size ≤ 60
  · by_cases hg : gn.size ≤ 60 ∧ gd.size ≤ 60
    · exact freads_in fn fd gn gd w hG hf.1 hf.2 hg.1 hg.2
    · exact freads_long fn fd gn gd w hG (flong_true (f := (gn, gd)) (by simp) (by show 60 < gn.size ∨ 60 < gd.size; omega))
  · exact freads_long fn fd gn gd w hG (flong_true (f := (fn, fd)) (by simp) (by show 60 < fn.size ∨ 60 < fd.size; omega))

end Go.Proofs.YtldohkfomdcpoaaGreatDoor
