/- the law FractionArithmetic: the walk. -/
import Derived.Test.YtldohkfomdcpoaaGreatDoorME
import Derived.Deep.DeepCutAuto
import Derived.Laws.NewBlocks
namespace Go.Proofs.YtldohkfomdcpoaaGreatDoor
open Go.RowKit Fra

set_option maxRecDepth 100000 in
set_option maxHeartbeats 16000000 in
theorem farith_in (fn fd gn gd : ByteArray) (w : World) (hG : Ground w) (hf1 : fn.size ≤ 60) (hf2 : fd.size ≤ 60) (hg1 : gn.size ≤ 60) (hg2 : gd.size ≤ 60) :
    Calls Tryz.prog 4 #[.agg #[.string fn, .string fd], .agg #[.string gn, .string gd]] w fun e w' => e = .returned (.bool true) ∧ Below w.heap.size w w' := by
  have hl : flong 60 [(fn, fd), (gn, gd)] = false := flong_false (by simp; omega)
  have HL := Lib.hid hl
  clear hl
  obtain ⟨qu, qv, qc, h1, h2⟩ := quo_both fn fd gn gd hf1 hf2 hg1 hg2
  have HQ1 := Lib.hid h1
  have HQ2 := Lib.hid h2
  clear h1 h2
  obtain ⟨nu, nv, h1, h2⟩ := neg_both fn fd hf1 hf2
  have HN1 := Lib.hid h1
  have HN2 := Lib.hid h2
  clear h1 h2
  obtain ⟨au, av, h1, h2⟩ := add_both fn fd gn gd hf1 hf2 hg1 hg2
  have HA1 := Lib.hid h1
  have HA2 := Lib.hid h2
  clear h1 h2
  obtain ⟨su, sv, h1, h2⟩ := sub_both fn fd gn gd hf1 hf2 hg1 hg2
  have HS1 := Lib.hid h1
  have HS2 := Lib.hid h2
  clear h1 h2
  obtain ⟨mu, mv, h1, h2⟩ := mul_both fn fd gn gd hf1 hf2 hg1 hg2
  have HM1 := Lib.hid h1
  have HM2 := Lib.hid h2
  clear h1 h2
  have HAW := Lib.hid awake_ret
  obtain ⟨W0, hW0⟩ : ∃ W0, W0 = (w.alloc (.cells #[.string fn, .string fd] 24)).alloc (.cells #[.string gn, .string gd] 24) := ⟨_, rfl⟩
  have hS : StL w W0 [(w.heap.size + 1, gn, gd), (w.heap.size, fn, fd)] := by rw [hW0]; exact StL.two hG _ _ _ _
  go_enter Tryz.func4, Tryz.ntmps4
  go_upto_region 1 with fail
  rw [← hW0]
  clear hW0
  obtain ⟨fp0, fp1, _⟩ := hS.box
  obtain ⟨fx0, fy0, _, _⟩ := fp0.cells
  obtain ⟨fx1, fy1, _, _⟩ := fp1.cells
  go_wp2_with fail
  obtain ⟨W1, hW1⟩ : ∃ W1, W1 = W0.alloc (.cells #[.string fn, .string fd, .string gn, .string gd] 24) := ⟨_, rfl⟩
  have hc0 : ∀ i, i < 2 → W1.cell? ⟨W0.heap.size, i * 2, none⟩ = some (.string ([(fn, fd), (gn, gd)].getD i (⟨#[]⟩, ⟨#[]⟩)).1) ∧ W1.cell? ⟨W0.heap.size, i * 2 + 1, none⟩ = some (.string ([(fn, fd), (gn, gd)].getD i (⟨#[]⟩, ⟨#[]⟩)).2) := by rw [hW1]; exact fgreat_cells W0 [(fn, fd), (gn, gd)]
  have hS1 : StL w W1 [(w.heap.size + 1, gn, gd), (w.heap.size, fn, fd)] := by rw [hW1]; exact hS.other _
  rw [← hW1]
  clear fp0 fx0 fy0 fp1 fx1 fy1
  clear hW1 hS
  have hS := hS1
  clear hS1
  refine (rGreat_any W1 W0.heap.size 2 [(fn, fd), (gn, gd)] rfl (by decide) hc0).mono ?_
  rintro _ _ ⟨rfl, rfl⟩
  clear hc0
  rw [HL.out]
  obtain ⟨fp0, fp1, _⟩ := hS.box
  obtain ⟨fx0, fy0, _, _⟩ := fp0.cells
  obtain ⟨fx1, fy1, _, _⟩ := fp1.cells
  go_wp2_with fail
  clear fp0 fx0 fy0 fp1 fx1 fy1
  refine Calls.mono (Ret.call HQ1.out _ hS.g) ?_
  rintro _ w1 ⟨rfl, hB⟩
  replace hS := hS.next hB
  clear hB
  go_upto_region 4 with fail
  obtain ⟨b2, hb2⟩ : ∃ b, b = w1.heap.size := ⟨_, rfl⟩
  obtain ⟨V2, hV2⟩ : ∃ V, V = w1.alloc (.cells #[.string qu, .string qv] 24) := ⟨_, rfl⟩
  have hT : StL w V2 [(b2, qu, qv), (w.heap.size + 1, gn, gd), (w.heap.size, fn, fd)] := by rw [hV2, hb2]; exact hS.alloc _ _
  rw [← hb2, ← hV2]
  clear hV2 hb2 hS
  have hS := hT
  clear hT
  obtain ⟨fp0, fp1, fp2, _⟩ := hS.box
  obtain ⟨fx0, fy0, _, _⟩ := fp0.cells
  obtain ⟨fx1, fy1, _, _⟩ := fp1.cells
  obtain ⟨fx2, fy2, _, _⟩ := fp2.cells
  go_wp2_with fail
  clear fp0 fx0 fy0 fp1 fx1 fy1 fp2 fx2 fy2
  refine Calls.mono (Ret.call HQ2.out _ hS.g) ?_
  rintro _ w3 ⟨rfl, hB⟩
  replace hS := hS.next hB
  clear hB
  go_upto_region 5 with fail
  obtain ⟨b4, hb4⟩ : ∃ b, b = w3.heap.size := ⟨_, rfl⟩
  obtain ⟨V4, hV4⟩ : ∃ V, V = w3.alloc (.cells #[.string qu, .string qv] 24) := ⟨_, rfl⟩
  have hT : StL w V4 [(b4, qu, qv), (b2, qu, qv), (w.heap.size + 1, gn, gd), (w.heap.size, fn, fd)] := by rw [hV4, hb4]; exact hS.alloc _ _
  rw [← hb4, ← hV4]
  clear hV4 hb4 hS
  have hS := hT
  clear hT
  obtain ⟨fp0, fp1, fp2, fp3, _⟩ := hS.box
  obtain ⟨fx0, fy0, _, _⟩ := fp0.cells
  obtain ⟨fx1, fy1, _, _⟩ := fp1.cells
  obtain ⟨fx2, fy2, _, _⟩ := fp2.cells
  obtain ⟨fx3, fy3, _, _⟩ := fp3.cells
  have hgu := frac_guards
  have heq := frac_same
  try go_upto_region 5 with fail
  have HS := Lib.hid hS
  clear hS
  go_cut [4] (fun s4 wx => s4 = .bool true ∧ StL w wx [(b4, qu, qv), (b2, qu, qv), (w.heap.size + 1, gn, gd), (w.heap.size, fn, fd)])
  case first =>
    go_region_held3 (fun w' => w'.cell? ⟨b4, 0, none⟩ = some (.string qu) ∧ w'.cell? ⟨b4, 1, none⟩ = some (.string qv) ∧ w'.cell? ⟨b2, 0, none⟩ = some (.string qu) ∧ w'.cell? ⟨b2, 1, none⟩ = some (.string qv) ∧ w'.cell? ⟨w.heap.size + 1, 0, none⟩ = some (.string gn) ∧ w'.cell? ⟨w.heap.size + 1, 1, none⟩ = some (.string gd) ∧ w'.cell? ⟨w.heap.size, 0, none⟩ = some (.string fn) ∧ w'.cell? ⟨w.heap.size, 1, none⟩ = some (.string fd))
      (go_keep)
      (first
    | (go_at_call 22;
         (first
           | (with_reducible refine Calls.mono (Ret.call HN1.out _ (by first | exact HS.out.g | exact HS.out.drew.g | exact (HS.out.drewN _).g)) ?_));
         (rintro e WX ⟨rfl, hB1⟩);
         (have HS2 : StL w WX [(b4, qu, qv), (b2, qu, qv), (w.heap.size + 1, gn, gd), (w.heap.size, fn, fd)] := (by first | exact HS.out.next hB1 | exact HS.out.next1 hB1 | exact HS.out.nextD hB1));
         (replace HS := Lib.hid HS2);
         (clear hB1 HS2);
         (obtain ⟨fp0, fp1, fp2, fp3, _⟩ := HS.out.box);
         (obtain ⟨fx0, fy0, _, _⟩ := fp0.cells);
         (obtain ⟨fx1, fy1, _, _⟩ := fp1.cells);
         (obtain ⟨fx2, fy2, _, _⟩ := fp2.cells);
         (obtain ⟨fx3, fy3, _, _⟩ := fp3.cells))
    | (go_at_call 23;
         (first
           | (with_reducible refine Calls.mono (Ret.call HN2.out _ (by first | exact HS.out.g | exact HS.out.drew.g | exact (HS.out.drewN _).g)) ?_));
         (rintro e WX ⟨rfl, hB1⟩);
         (have HS2 : StL w WX [(b4, qu, qv), (b2, qu, qv), (w.heap.size + 1, gn, gd), (w.heap.size, fn, fd)] := (by first | exact HS.out.next hB1 | exact HS.out.next1 hB1 | exact HS.out.nextD hB1));
         (replace HS := Lib.hid HS2);
         (clear hB1 HS2);
         (obtain ⟨fp0, fp1, fp2, fp3, _⟩ := HS.out.box);
         (obtain ⟨fx0, fy0, _, _⟩ := fp0.cells);
         (obtain ⟨fx1, fy1, _, _⟩ := fp1.cells);
         (obtain ⟨fx2, fy2, _, _⟩ := fp2.cells);
         (obtain ⟨fx3, fy3, _, _⟩ := fp3.cells))
    | (go_at_call 24;
         (first
           | (with_reducible refine Calls.mono (Ret.call HA1.out _ (by first | exact HS.out.g | exact HS.out.drew.g | exact (HS.out.drewN _).g)) ?_));
         (rintro e WX ⟨rfl, hB1⟩);
         (have HS2 : StL w WX [(b4, qu, qv), (b2, qu, qv), (w.heap.size + 1, gn, gd), (w.heap.size, fn, fd)] := (by first | exact HS.out.next hB1 | exact HS.out.next1 hB1 | exact HS.out.nextD hB1));
         (replace HS := Lib.hid HS2);
         (clear hB1 HS2);
         (obtain ⟨fp0, fp1, fp2, fp3, _⟩ := HS.out.box);
         (obtain ⟨fx0, fy0, _, _⟩ := fp0.cells);
         (obtain ⟨fx1, fy1, _, _⟩ := fp1.cells);
         (obtain ⟨fx2, fy2, _, _⟩ := fp2.cells);
         (obtain ⟨fx3, fy3, _, _⟩ := fp3.cells))
    | (go_at_call 25;
         (first
           | (with_reducible refine Calls.mono (Ret.call HA2.out _ (by first | exact HS.out.g | exact HS.out.drew.g | exact (HS.out.drewN _).g)) ?_));
         (rintro e WX ⟨rfl, hB1⟩);
         (have HS2 : StL w WX [(b4, qu, qv), (b2, qu, qv), (w.heap.size + 1, gn, gd), (w.heap.size, fn, fd)] := (by first | exact HS.out.next hB1 | exact HS.out.next1 hB1 | exact HS.out.nextD hB1));
         (replace HS := Lib.hid HS2);
         (clear hB1 HS2);
         (obtain ⟨fp0, fp1, fp2, fp3, _⟩ := HS.out.box);
         (obtain ⟨fx0, fy0, _, _⟩ := fp0.cells);
         (obtain ⟨fx1, fy1, _, _⟩ := fp1.cells);
         (obtain ⟨fx2, fy2, _, _⟩ := fp2.cells);
         (obtain ⟨fx3, fy3, _, _⟩ := fp3.cells))
    | (go_at_call 26;
         (first
           | (with_reducible refine Calls.mono (Ret.call HS1.out _ (by first | exact HS.out.g | exact HS.out.drew.g | exact (HS.out.drewN _).g)) ?_));
         (rintro e WX ⟨rfl, hB1⟩);
         (have HS2 : StL w WX [(b4, qu, qv), (b2, qu, qv), (w.heap.size + 1, gn, gd), (w.heap.size, fn, fd)] := (by first | exact HS.out.next hB1 | exact HS.out.next1 hB1 | exact HS.out.nextD hB1));
         (replace HS := Lib.hid HS2);
         (clear hB1 HS2);
         (obtain ⟨fp0, fp1, fp2, fp3, _⟩ := HS.out.box);
         (obtain ⟨fx0, fy0, _, _⟩ := fp0.cells);
         (obtain ⟨fx1, fy1, _, _⟩ := fp1.cells);
         (obtain ⟨fx2, fy2, _, _⟩ := fp2.cells);
         (obtain ⟨fx3, fy3, _, _⟩ := fp3.cells))
    | (go_at_call 27;
         (first
           | (with_reducible refine Calls.mono (Ret.call HS2.out _ (by first | exact HS.out.g | exact HS.out.drew.g | exact (HS.out.drewN _).g)) ?_));
         (rintro e WX ⟨rfl, hB1⟩);
         (have HS2 : StL w WX [(b4, qu, qv), (b2, qu, qv), (w.heap.size + 1, gn, gd), (w.heap.size, fn, fd)] := (by first | exact HS.out.next hB1 | exact HS.out.next1 hB1 | exact HS.out.nextD hB1));
         (replace HS := Lib.hid HS2);
         (clear hB1 HS2);
         (obtain ⟨fp0, fp1, fp2, fp3, _⟩ := HS.out.box);
         (obtain ⟨fx0, fy0, _, _⟩ := fp0.cells);
         (obtain ⟨fx1, fy1, _, _⟩ := fp1.cells);
         (obtain ⟨fx2, fy2, _, _⟩ := fp2.cells);
         (obtain ⟨fx3, fy3, _, _⟩ := fp3.cells))
    | (go_at_call 28;
         (first
           | (with_reducible refine Calls.mono (Ret.call HM1.out _ (by first | exact HS.out.g | exact HS.out.drew.g | exact (HS.out.drewN _).g)) ?_));
         (rintro e WX ⟨rfl, hB1⟩);
         (have HS2 : StL w WX [(b4, qu, qv), (b2, qu, qv), (w.heap.size + 1, gn, gd), (w.heap.size, fn, fd)] := (by first | exact HS.out.next hB1 | exact HS.out.next1 hB1 | exact HS.out.nextD hB1));
         (replace HS := Lib.hid HS2);
         (clear hB1 HS2);
         (obtain ⟨fp0, fp1, fp2, fp3, _⟩ := HS.out.box);
         (obtain ⟨fx0, fy0, _, _⟩ := fp0.cells);
         (obtain ⟨fx1, fy1, _, _⟩ := fp1.cells);
         (obtain ⟨fx2, fy2, _, _⟩ := fp2.cells);
         (obtain ⟨fx3, fy3, _, _⟩ := fp3.cells))
    | (go_at_call 29;
         (first
           | (with_reducible refine Calls.mono (Ret.call HM2.out _ (by first | exact HS.out.g | exact HS.out.drew.g | exact (HS.out.drewN _).g)) ?_));
         (rintro e WX ⟨rfl, hB1⟩);
         (have HS2 : StL w WX [(b4, qu, qv), (b2, qu, qv), (w.heap.size + 1, gn, gd), (w.heap.size, fn, fd)] := (by first | exact HS.out.next hB1 | exact HS.out.next1 hB1 | exact HS.out.nextD hB1));
         (replace HS := Lib.hid HS2);
         (clear hB1 HS2);
         (obtain ⟨fp0, fp1, fp2, fp3, _⟩ := HS.out.box);
         (obtain ⟨fx0, fy0, _, _⟩ := fp0.cells);
         (obtain ⟨fx1, fy1, _, _⟩ := fp1.cells);
         (obtain ⟨fx2, fy2, _, _⟩ := fp2.cells);
         (obtain ⟨fx3, fy3, _, _⟩ := fp3.cells))
    | (go_at_call 7;
         (first
           | (with_reducible refine Calls.mono (Ret.call HAW.out _ (by first | exact HS.out.g | exact HS.out.drew.g | exact (HS.out.drewN _).g)) ?_));
         (rintro e WX ⟨rfl, hB1⟩);
         (have HS2 : StL w WX [(b4, qu, qv), (b2, qu, qv), (w.heap.size + 1, gn, gd), (w.heap.size, fn, fd)] := (by first | exact HS.out.next hB1 | exact HS.out.next1 hB1 | exact HS.out.nextD hB1));
         (replace HS := Lib.hid HS2);
         (clear hB1 HS2);
         (obtain ⟨fp0, fp1, fp2, fp3, _⟩ := HS.out.box);
         (obtain ⟨fx0, fy0, _, _⟩ := fp0.cells);
         (obtain ⟨fx1, fy1, _, _⟩ := fp1.cells);
         (obtain ⟨fx2, fy2, _, _⟩ := fp2.cells);
         (obtain ⟨fx3, fy3, _, _⟩ := fp3.cells)))
    all_goals go_wp2_with fail
    all_goals go_meet
    all_goals exact ⟨rfl, (by first | exact HS.out | exact HS.out.drew | exact HS.out.drewN _)⟩
  clear HS
  clear fp0 fx0 fy0 fp1 fx1 fy1 fp2 fx2 fy2 fp3 fx3 fy3
  obtain ⟨rfl, hS⟩ := hcut
  obtain ⟨w5, hw⟩ : ∃ W, W = wc := ⟨_, rfl⟩
  rw [← hw] at hS
  rw [← hw]
  clear hw
  go_wp2_with fail
  go_ret
  exact ⟨rfl, hS.below⟩

set_option maxRecDepth 100000 in
set_option maxHeartbeats 16000000 in
theorem farith_long (fn fd gn gd : ByteArray) (w : World) (hG : Ground w) (hl : flong 60 [(fn, fd), (gn, gd)] = true) :
    Calls Tryz.prog 4 #[.agg #[.string fn, .string fd], .agg #[.string gn, .string gd]] w fun e w' => e = .returned (.bool true) ∧ Below w.heap.size w w' := by
  have HL := Lib.hid hl
  clear hl
  obtain ⟨W0, hW0⟩ : ∃ W0, W0 = (w.alloc (.cells #[.string fn, .string fd] 24)).alloc (.cells #[.string gn, .string gd] 24) := ⟨_, rfl⟩
  have hS : StL w W0 [(w.heap.size + 1, gn, gd), (w.heap.size, fn, fd)] := by rw [hW0]; exact StL.two hG _ _ _ _
  go_enter Tryz.func4, Tryz.ntmps4
  go_upto_region 1 with fail
  rw [← hW0]
  clear hW0
  obtain ⟨fp0, fp1, _⟩ := hS.box
  obtain ⟨fx0, fy0, _, _⟩ := fp0.cells
  obtain ⟨fx1, fy1, _, _⟩ := fp1.cells
  go_wp2_with fail
  obtain ⟨W1, hW1⟩ : ∃ W1, W1 = W0.alloc (.cells #[.string fn, .string fd, .string gn, .string gd] 24) := ⟨_, rfl⟩
  have hc0 : ∀ i, i < 2 → W1.cell? ⟨W0.heap.size, i * 2, none⟩ = some (.string ([(fn, fd), (gn, gd)].getD i (⟨#[]⟩, ⟨#[]⟩)).1) ∧ W1.cell? ⟨W0.heap.size, i * 2 + 1, none⟩ = some (.string ([(fn, fd), (gn, gd)].getD i (⟨#[]⟩, ⟨#[]⟩)).2) := by rw [hW1]; exact fgreat_cells W0 [(fn, fd), (gn, gd)]
  have hS1 : StL w W1 [(w.heap.size + 1, gn, gd), (w.heap.size, fn, fd)] := by rw [hW1]; exact hS.other _
  rw [← hW1]
  clear fp0 fx0 fy0 fp1 fx1 fy1
  clear hW1 hS
  have hS := hS1
  clear hS1
  refine (rGreat_any W1 W0.heap.size 2 [(fn, fd), (gn, gd)] rfl (by decide) hc0).mono ?_
  rintro _ _ ⟨rfl, rfl⟩
  clear hc0
  rw [HL.out]
  obtain ⟨fp0, fp1, _⟩ := hS.box
  obtain ⟨fx0, fy0, _, _⟩ := fp0.cells
  obtain ⟨fx1, fy1, _, _⟩ := fp1.cells
  go_wp2_with fail
  clear fp0 fx0 fy0 fp1 fx1 fy1
  refine Calls.mono (fawake_any _ hS.g) ?_
  rintro _ w1 ⟨rfl, hB⟩
  replace hS := hS.next hB
  clear hB
  obtain ⟨fp0, fp1, _⟩ := hS.box
  obtain ⟨fx0, fy0, _, _⟩ := fp0.cells
  obtain ⟨fx1, fy1, _, _⟩ := fp1.cells
  go_wp2_with fail
  go_ret
  exact ⟨rfl, hS.below⟩

theorem farith_any (fn fd gn gd : ByteArray) (w : World) (hG : Ground w) :
    Calls Tryz.prog 4 #[.agg #[.string fn, .string fd], .agg #[.string gn, .string gd]] w fun e w' => e = .returned (.bool true) ∧ Below w.heap.size w w' := by
  by_cases hf : fn.size ≤ 60 ∧ fd.size ≤ 60
  · by_cases hg : gn.size ≤ 60 ∧ gd.size ≤ 60
    · exact farith_in fn fd gn gd w hG hf.1 hf.2 hg.1 hg.2
    · exact farith_long fn fd gn gd w hG (flong_true (f := (gn, gd)) (by simp) (by show 60 < gn.size ∨ 60 < gd.size; omega))
  · exact farith_long fn fd gn gd w hG (flong_true (f := (fn, fd)) (by simp) (by show 60 < fn.size ∨ 60 < fd.size; omega))

end Go.Proofs.YtldohkfomdcpoaaGreatDoor
