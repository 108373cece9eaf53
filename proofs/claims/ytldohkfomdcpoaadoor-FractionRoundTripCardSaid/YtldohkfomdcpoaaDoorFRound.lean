/- the law FractionRoundTrip: the walk. -/
import Derived.Test.YtldohkfomdcpoaaDoorFst
import Derived.Deep.DeepCutAuto
namespace Go.Proofs.YtldohkfomdcpoaaDoor
open Go.RowKit Fra

set_option maxRecDepth 100000 in
set_option maxHeartbeats 16000000 in
theorem fround_good (fn fd s : ByteArray) (w : World) (hG : Ground w) (h1 : fn.size ≤ 60) (h2 : fd.size ≤ 60) (hs : s.size ≤ 130) (hgood : textP (parseV s) = s) :
    Calls Tryd.prog 8 #[.agg #[.string fn, .string fd], .string s] w fun e w' => e = .returned (.bool true) ∧ Below w.heap.size w w' := by
  have hl : flong 60 [(fn, fd)] = false := flong_false (by simp; omega)
  obtain ⟨x, hx⟩ : ∃ x, raw fn fd = x := ⟨_, rfl⟩
  have Hf : Giv 60 fn fd x := ⟨hx, h1, h2⟩
  have hlow : Low (low x) := Low.of_low Hf.pos
  have hsz : (textP (low x)).size ≤ 65536 := by have := textP_size (CapP.low (Hf.cap (by decide)) Hf.pos); omega
  have hgd : textP (parseV (textP (low x))) = textP (low x) := by rw [parseV_text hlow]
  have HPT := Lib.hid (parseV_text hlow)
  have HSZ := Lib.hid hsz
  have HGD := Lib.hid hgd
  have HL := Lib.hid hl
  clear hl hx hlow hsz hgd
  have hs1 : ¬ (130 : Int) < s.size := by omega
  have HG := Lib.hid hgood
  have HLow := Lib.hid (parseV_low s)
  have HV := Lib.hid (show Val (cS (parseV s).1) (cD (parseV s).2) (parseV s) from Val.of (k := 130) (CapP.low (CapP.of_raw (by decide) (Nat.le_trans (numS_size s) hs) (Nat.le_trans (denS_size s) hs)) (raw_pos _ _)) (parseV_low s).1 (by decide))
  clear hgood
  obtain ⟨W0, hW0⟩ : ∃ W0, W0 = w.alloc (.cells #[.string fn, .string fd] 24) := ⟨_, rfl⟩
  have hS : StL w W0 [(w.heap.size, fn, fd)] := by rw [hW0]; exact StL.one hG _ _
  go_enter Tryd.func8, Tryd.ntmps8
  go_upto_region 1 with fail
  rw [← hW0]
  clear hW0
  obtain ⟨fp0, _⟩ := hS.box
  obtain ⟨fx0, fy0, _, _⟩ := fp0.cells
  go_wp2_with fail
  obtain ⟨W1, hW1⟩ : ∃ W1, W1 = W0.alloc (.cells #[.string fn, .string fd] 24) := ⟨_, rfl⟩
  have hc0 : ∀ i, i < 1 → W1.cell? ⟨W0.heap.size, i * 2, none⟩ = some (.string ([(fn, fd)].getD i (⟨#[]⟩, ⟨#[]⟩)).1) ∧ W1.cell? ⟨W0.heap.size, i * 2 + 1, none⟩ = some (.string ([(fn, fd)].getD i (⟨#[]⟩, ⟨#[]⟩)).2) := by rw [hW1]; exact fgreat_cells W0 [(fn, fd)]
  have hS1 : StL w W1 [(w.heap.size, fn, fd)] := by rw [hW1]; exact hS.other _
  rw [← hW1]
  clear fp0 fx0 fy0
  clear hW1 hS
  have hS := hS1
  clear hS1
  refine (rGreat_any W1 W0.heap.size 1 [(fn, fd)] rfl (by decide) hc0).mono ?_
  rintro _ _ ⟨rfl, rfl⟩
  clear hc0
  rw [HL.out]
  obtain ⟨fp0, _⟩ := hS.box
  obtain ⟨fx0, fy0, _, _⟩ := fp0.cells
  go_wp2_with fail
  clear fp0 fx0 fy0
  refine Calls.mono (fPrint_v (z := low x) _ hS.g (Hf.arg (by decide)) rfl) ?_
  rintro _ w1 ⟨rfl, hB⟩
  replace hS := hS.next hB
  clear hB
  obtain ⟨fp0, _⟩ := hS.box
  obtain ⟨fx0, fy0, _, _⟩ := fp0.cells
  go_wp2_with fail
  clear fp0 fx0 fy0
  refine Calls.mono (show Calls _ _ _ _ (fun r w' => r = .returned (.tuple #[.agg #[.string (cS (low x).1), .string (cD (low x).2)], .int .i64 0]) ∧ Below _ _ w') from by have := fParse_ok (textP (low x)) w1 hS.g HSZ.out HGD.out; rwa [HPT.out] at this) ?_
  rintro _ w2 ⟨rfl, hB⟩
  replace hS := hS.next hB
  clear hB
  go_upto_region 4 with fail
  obtain ⟨b3, hb3⟩ : ∃ b, b = w2.heap.size := ⟨_, rfl⟩
  obtain ⟨V3, hV3⟩ : ∃ V, V = w2.alloc (.cells #[.string (cS (low x).1), .string (cD (low x).2)] 24) := ⟨_, rfl⟩
  have hT : StL w V3 [(b3, (cS (low x).1), (cD (low x).2)), (w.heap.size, fn, fd)] := by rw [hV3, hb3]; exact hS.alloc _ _
  rw [← hb3, ← hV3]
  clear hV3 hb3 hS
  have hS := hT
  clear hT
  obtain ⟨fp0, fp1, _⟩ := hS.box
  obtain ⟨fx0, fy0, _, _⟩ := fp0.cells
  obtain ⟨fx1, fy1, _, _⟩ := fp1.cells
  go_wp2_with fail
  clear fp0 fx0 fy0 fp1 fx1 fy1
  refine Calls.mono (fParse_ok s _ hS.g (by omega) HG.out) ?_
  rintro _ w4 ⟨rfl, hB⟩
  replace hS := hS.next hB
  clear hB
  go_upto_region 5 with fail
  obtain ⟨b5, hb5⟩ : ∃ b, b = w4.heap.size := ⟨_, rfl⟩
  obtain ⟨V5, hV5⟩ : ∃ V, V = w4.alloc (.cells #[.string (cS (parseV s).1), .string (cD (parseV s).2)] 24) := ⟨_, rfl⟩
  have hT : StL w V5 [(b5, (cS (parseV s).1), (cD (parseV s).2)), (b3, (cS (low x).1), (cD (low x).2)), (w.heap.size, fn, fd)] := by rw [hV5, hb5]; exact hS.alloc _ _
  rw [← hb5, ← hV5]
  clear hV5 hb5 hS
  have hS := hT
  clear hT
  obtain ⟨fp0, fp1, fp2, _⟩ := hS.box
  obtain ⟨fx0, fy0, _, _⟩ := fp0.cells
  obtain ⟨fx1, fy1, _, _⟩ := fp1.cells
  obtain ⟨fx2, fy2, _, _⟩ := fp2.cells
  have hgu := frac_guardn
  have hnq := frac_nsame
  try go_upto_region 5 with fail
  have HS := Lib.hid hS
  clear hS
  go_cut [37] (fun s37 wx => s37 = .bool false ∧ StL w wx [(b5, (cS (parseV s).1), (cD (parseV s).2)), (b3, (cS (low x).1), (cD (low x).2)), (w.heap.size, fn, fd)])
  case first =>
    go_region_held3 (fun w' => w'.cell? ⟨b5, 0, none⟩ = some (.string (cS (parseV s).1)) ∧ w'.cell? ⟨b5, 1, none⟩ = some (.string (cD (parseV s).2)) ∧ w'.cell? ⟨b3, 0, none⟩ = some (.string (cS (low x).1)) ∧ w'.cell? ⟨b3, 1, none⟩ = some (.string (cD (low x).2)) ∧ w'.cell? ⟨w.heap.size, 0, none⟩ = some (.string fn) ∧ w'.cell? ⟨w.heap.size, 1, none⟩ = some (.string fd))
      (go_keep)
      (first
    | (go_at_call 11;
         (first
           | (with_reducible refine Calls.mono (fAdd_v (z := low x) _ (by first | exact HS.out.g | exact HS.out.drew.g | exact (HS.out.drewN _).g) (Hf.arg (by decide)) Val.zero (addP_zero)) ?_));
         (rintro e WX ⟨rfl, hB1⟩);
         (have HS2 : StL w WX [(b5, (cS (parseV s).1), (cD (parseV s).2)), (b3, (cS (low x).1), (cD (low x).2)), (w.heap.size, fn, fd)] := (by first | exact HS.out.next hB1 | exact HS.out.next1 hB1 | exact HS.out.nextD hB1));
         (replace HS := Lib.hid HS2);
         (clear hB1 HS2);
         (obtain ⟨fp0, fp1, fp2, _⟩ := HS.out.box);
         (obtain ⟨fx0, fy0, _, _⟩ := fp0.cells);
         (obtain ⟨fx1, fy1, _, _⟩ := fp1.cells);
         (obtain ⟨fx2, fy2, _, _⟩ := fp2.cells)))
    all_goals go_wp2_with fail
    all_goals go_meet
    all_goals exact ⟨rfl, (by first | exact HS.out | exact HS.out.drew | exact HS.out.drewN _)⟩
  clear HS
  clear fp0 fx0 fy0 fp1 fx1 fy1 fp2 fx2 fy2
  obtain ⟨rfl, hS⟩ := hcut
  obtain ⟨w6, hw⟩ : ∃ W, W = wc := ⟨_, rfl⟩
  rw [← hw] at hS
  rw [← hw]
  clear hw
  clear hgu hnq
  obtain ⟨fp0, fp1, fp2, _⟩ := hS.box
  obtain ⟨fx0, fy0, _, _⟩ := fp0.cells
  obtain ⟨fx1, fy1, _, _⟩ := fp1.cells
  obtain ⟨fx2, fy2, _, _⟩ := fp2.cells
  go_wp2_with fail
  clear fp0 fx0 fy0 fp1 fx1 fy1 fp2 fx2 fy2
  refine Calls.mono (fPrint_v (z := parseV s) _ hS.g HV.out HLow.out.eq) ?_
  rintro _ w7 ⟨rfl, hB⟩
  replace hS := hS.next hB
  clear hB
  rw [HG.out]
  obtain ⟨fp0, fp1, fp2, _⟩ := hS.box
  obtain ⟨fx0, fy0, _, _⟩ := fp0.cells
  obtain ⟨fx1, fy1, _, _⟩ := fp1.cells
  obtain ⟨fx2, fy2, _, _⟩ := fp2.cells
  go_wp2_with fail
  clear fp0 fx0 fy0 fp1 fx1 fy1 fp2 fx2 fy2
  refine Calls.mono (fCheck_v _ hS.g HV.out HLow.out rfl rfl) ?_
  rintro _ w8 ⟨rfl, hB⟩
  replace hS := hS.next hB
  clear hB
  obtain ⟨fp0, fp1, fp2, _⟩ := hS.box
  obtain ⟨fx0, fy0, _, _⟩ := fp0.cells
  obtain ⟨fx1, fy1, _, _⟩ := fp1.cells
  obtain ⟨fx2, fy2, _, _⟩ := fp2.cells
  go_wp2_with fail
  clear fp0 fx0 fy0 fp1 fx1 fy1 fp2 fx2 fy2
  refine Calls.mono (fawake_any _ hS.g) ?_
  rintro _ w9 ⟨rfl, hB⟩
  replace hS := hS.next hB
  clear hB
  obtain ⟨fp0, fp1, fp2, _⟩ := hS.box
  obtain ⟨fx0, fy0, _, _⟩ := fp0.cells
  obtain ⟨fx1, fy1, _, _⟩ := fp1.cells
  obtain ⟨fx2, fy2, _, _⟩ := fp2.cells
  go_wp2_with fail
  go_ret
  exact ⟨rfl, hS.below⟩

set_option maxRecDepth 100000 in
set_option maxHeartbeats 16000000 in
theorem fround_bad (fn fd s : ByteArray) (w : World) (hG : Ground w) (h1 : fn.size ≤ 60) (h2 : fd.size ≤ 60) (hs : s.size ≤ 130) (hgood : textP (parseV s) ≠ s) :
    Calls Tryd.prog 8 #[.agg #[.string fn, .string fd], .string s] w fun e w' => e = .returned (.bool true) ∧ Below w.heap.size w w' := by
  have hl : flong 60 [(fn, fd)] = false := flong_false (by simp; omega)
  obtain ⟨x, hx⟩ : ∃ x, raw fn fd = x := ⟨_, rfl⟩
  have Hf : Giv 60 fn fd x := ⟨hx, h1, h2⟩
  have hlow : Low (low x) := Low.of_low Hf.pos
  have hsz : (textP (low x)).size ≤ 65536 := by have := textP_size (CapP.low (Hf.cap (by decide)) Hf.pos); omega
  have hgd : textP (parseV (textP (low x))) = textP (low x) := by rw [parseV_text hlow]
  have HPT := Lib.hid (parseV_text hlow)
  have HSZ := Lib.hid hsz
  have HGD := Lib.hid hgd
  have HL := Lib.hid hl
  clear hl hx hlow hsz hgd
  have hs1 : ¬ (130 : Int) < s.size := by omega
  have HG := Lib.hid hgood
  clear hgood
  obtain ⟨W0, hW0⟩ : ∃ W0, W0 = w.alloc (.cells #[.string fn, .string fd] 24) := ⟨_, rfl⟩
  have hS : StL w W0 [(w.heap.size, fn, fd)] := by rw [hW0]; exact StL.one hG _ _
  go_enter Tryd.func8, Tryd.ntmps8
  go_upto_region 1 with fail
  rw [← hW0]
  clear hW0
  obtain ⟨fp0, _⟩ := hS.box
  obtain ⟨fx0, fy0, _, _⟩ := fp0.cells
  go_wp2_with fail
  obtain ⟨W1, hW1⟩ : ∃ W1, W1 = W0.alloc (.cells #[.string fn, .string fd] 24) := ⟨_, rfl⟩
  have hc0 : ∀ i, i < 1 → W1.cell? ⟨W0.heap.size, i * 2, none⟩ = some (.string ([(fn, fd)].getD i (⟨#[]⟩, ⟨#[]⟩)).1) ∧ W1.cell? ⟨W0.heap.size, i * 2 + 1, none⟩ = some (.string ([(fn, fd)].getD i (⟨#[]⟩, ⟨#[]⟩)).2) := by rw [hW1]; exact fgreat_cells W0 [(fn, fd)]
  have hS1 : StL w W1 [(w.heap.size, fn, fd)] := by rw [hW1]; exact hS.other _
  rw [← hW1]
  clear fp0 fx0 fy0
  clear hW1 hS
  have hS := hS1
  clear hS1
  refine (rGreat_any W1 W0.heap.size 1 [(fn, fd)] rfl (by decide) hc0).mono ?_
  rintro _ _ ⟨rfl, rfl⟩
  clear hc0
  rw [HL.out]
  obtain ⟨fp0, _⟩ := hS.box
  obtain ⟨fx0, fy0, _, _⟩ := fp0.cells
  go_wp2_with fail
  clear fp0 fx0 fy0
  refine Calls.mono (fPrint_v (z := low x) _ hS.g (Hf.arg (by decide)) rfl) ?_
  rintro _ w1 ⟨rfl, hB⟩
  replace hS := hS.next hB
  clear hB
  obtain ⟨fp0, _⟩ := hS.box
  obtain ⟨fx0, fy0, _, _⟩ := fp0.cells
  go_wp2_with fail
  clear fp0 fx0 fy0
  refine Calls.mono (show Calls _ _ _ _ (fun r w' => r = .returned (.tuple #[.agg #[.string (cS (low x).1), .string (cD (low x).2)], .int .i64 0]) ∧ Below _ _ w') from by have := fParse_ok (textP (low x)) w1 hS.g HSZ.out HGD.out; rwa [HPT.out] at this) ?_
  rintro _ w2 ⟨rfl, hB⟩
  replace hS := hS.next hB
  clear hB
  go_upto_region 4 with fail
  obtain ⟨b3, hb3⟩ : ∃ b, b = w2.heap.size := ⟨_, rfl⟩
  obtain ⟨V3, hV3⟩ : ∃ V, V = w2.alloc (.cells #[.string (cS (low x).1), .string (cD (low x).2)] 24) := ⟨_, rfl⟩
  have hT : StL w V3 [(b3, (cS (low x).1), (cD (low x).2)), (w.heap.size, fn, fd)] := by rw [hV3, hb3]; exact hS.alloc _ _
  rw [← hb3, ← hV3]
  clear hV3 hb3 hS
  have hS := hT
  clear hT
  obtain ⟨fp0, fp1, _⟩ := hS.box
  obtain ⟨fx0, fy0, _, _⟩ := fp0.cells
  obtain ⟨fx1, fy1, _, _⟩ := fp1.cells
  go_wp2_with fail
  clear fp0 fx0 fy0 fp1 fx1 fy1
  refine Calls.mono (fParse_bad s _ hS.g (by omega) HG.out) ?_
  rintro _ w4 ⟨rfl, hB⟩
  replace hS := hS.next hB
  clear hB
  go_upto_region 5 with fail
  obtain ⟨b5, hb5⟩ : ∃ b, b = w4.heap.size := ⟨_, rfl⟩
  obtain ⟨V5, hV5⟩ : ∃ V, V = w4.alloc (.cells #[.string ⟨#[]⟩, .string ⟨#[]⟩] 24) := ⟨_, rfl⟩
  have hT : StL w V5 [(b5, ⟨#[]⟩, ⟨#[]⟩), (b3, (cS (low x).1), (cD (low x).2)), (w.heap.size, fn, fd)] := by rw [hV5, hb5]; exact hS.alloc _ _
  rw [← hb5, ← hV5]
  clear hV5 hb5 hS
  have hS := hT
  clear hT
  obtain ⟨fp0, fp1, fp2, _⟩ := hS.box
  obtain ⟨fx0, fy0, _, _⟩ := fp0.cells
  obtain ⟨fx1, fy1, _, _⟩ := fp1.cells
  obtain ⟨fx2, fy2, _, _⟩ := fp2.cells
  have hgu := frac_guardn
  have hnq := frac_nsame
  try go_upto_region 5 with fail
  have HS := Lib.hid hS
  clear hS
  go_cut [37] (fun s37 wx => s37 = .bool false ∧ StL w wx [(b5, ⟨#[]⟩, ⟨#[]⟩), (b3, (cS (low x).1), (cD (low x).2)), (w.heap.size, fn, fd)])
  case first =>
    go_region_held3 (fun w' => w'.cell? ⟨b5, 0, none⟩ = some (.string ⟨#[]⟩) ∧ w'.cell? ⟨b5, 1, none⟩ = some (.string ⟨#[]⟩) ∧ w'.cell? ⟨b3, 0, none⟩ = some (.string (cS (low x).1)) ∧ w'.cell? ⟨b3, 1, none⟩ = some (.string (cD (low x).2)) ∧ w'.cell? ⟨w.heap.size, 0, none⟩ = some (.string fn) ∧ w'.cell? ⟨w.heap.size, 1, none⟩ = some (.string fd))
      (go_keep)
      (first
    | (go_at_call 11;
         (first
           | (with_reducible refine Calls.mono (fAdd_v (z := low x) _ (by first | exact HS.out.g | exact HS.out.drew.g | exact (HS.out.drewN _).g) (Hf.arg (by decide)) Val.zero (addP_zero)) ?_));
         (rintro e WX ⟨rfl, hB1⟩);
         (have HS2 : StL w WX [(b5, ⟨#[]⟩, ⟨#[]⟩), (b3, (cS (low x).1), (cD (low x).2)), (w.heap.size, fn, fd)] := (by first | exact HS.out.next hB1 | exact HS.out.next1 hB1 | exact HS.out.nextD hB1));
         (replace HS := Lib.hid HS2);
         (clear hB1 HS2);
         (obtain ⟨fp0, fp1, fp2, _⟩ := HS.out.box);
         (obtain ⟨fx0, fy0, _, _⟩ := fp0.cells);
         (obtain ⟨fx1, fy1, _, _⟩ := fp1.cells);
         (obtain ⟨fx2, fy2, _, _⟩ := fp2.cells)))
    all_goals go_wp2_with fail
    all_goals go_meet
    all_goals exact ⟨rfl, (by first | exact HS.out | exact HS.out.drew | exact HS.out.drewN _)⟩
  clear HS
  clear fp0 fx0 fy0 fp1 fx1 fy1 fp2 fx2 fy2
  obtain ⟨rfl, hS⟩ := hcut
  obtain ⟨w6, hw⟩ : ∃ W, W = wc := ⟨_, rfl⟩
  rw [← hw] at hS
  rw [← hw]
  clear hw
  clear hgu hnq
  have hgu := frac_guards
  have heq := frac_same
  obtain ⟨fp0, fp1, fp2, _⟩ := hS.box
  obtain ⟨fx0, fy0, _, _⟩ := fp0.cells
  obtain ⟨fx1, fy1, _, _⟩ := fp1.cells
  obtain ⟨fx2, fy2, _, _⟩ := fp2.cells
  go_wp2_with fail
  clear fp0 fx0 fy0 fp1 fx1 fy1 fp2 fx2 fy2
  refine Calls.mono (fawake_any _ hS.g) ?_
  rintro _ w7 ⟨rfl, hB⟩
  replace hS := hS.next hB
  clear hB
  obtain ⟨fp0, fp1, fp2, _⟩ := hS.box
  obtain ⟨fx0, fy0, _, _⟩ := fp0.cells
  obtain ⟨fx1, fy1, _, _⟩ := fp1.cells
  obtain ⟨fx2, fy2, _, _⟩ := fp2.cells
  go_wp2_with fail
  go_ret
  exact ⟨rfl, hS.below⟩

set_option maxRecDepth 100000 in
set_option maxHeartbeats 16000000 in
theorem fround_long (fn fd s : ByteArray) (w : World) (hG : Ground w) (hl : flong 60 [(fn, fd)] = true) :
    Calls Tryd.prog 8 #[.agg #[.string fn, .string fd], .string s] w fun e w' => e = .returned (.bool true) ∧ Below w.heap.size w w' := by
  have HL := Lib.hid hl
  clear hl
  obtain ⟨W0, hW0⟩ : ∃ W0, W0 = w.alloc (.cells #[.string fn, .string fd] 24) := ⟨_, rfl⟩
  have hS : StL w W0 [(w.heap.size, fn, fd)] := by rw [hW0]; exact StL.one hG _ _
  go_enter Tryd.func8, Tryd.ntmps8
  go_upto_region 1 with fail
  rw [← hW0]
  clear hW0
  obtain ⟨fp0, _⟩ := hS.box
  obtain ⟨fx0, fy0, _, _⟩ := fp0.cells
  go_wp2_with fail
  obtain ⟨W1, hW1⟩ : ∃ W1, W1 = W0.alloc (.cells #[.string fn, .string fd] 24) := ⟨_, rfl⟩
  have hc0 : ∀ i, i < 1 → W1.cell? ⟨W0.heap.size, i * 2, none⟩ = some (.string ([(fn, fd)].getD i (⟨#[]⟩, ⟨#[]⟩)).1) ∧ W1.cell? ⟨W0.heap.size, i * 2 + 1, none⟩ = some (.string ([(fn, fd)].getD i (⟨#[]⟩, ⟨#[]⟩)).2) := by rw [hW1]; exact fgreat_cells W0 [(fn, fd)]
  have hS1 : StL w W1 [(w.heap.size, fn, fd)] := by rw [hW1]; exact hS.other _
  rw [← hW1]
  clear fp0 fx0 fy0
  clear hW1 hS
  have hS := hS1
  clear hS1
  refine (rGreat_any W1 W0.heap.size 1 [(fn, fd)] rfl (by decide) hc0).mono ?_
  rintro _ _ ⟨rfl, rfl⟩
  clear hc0
  rw [HL.out]
  obtain ⟨fp0, _⟩ := hS.box
  obtain ⟨fx0, fy0, _, _⟩ := fp0.cells
  go_wp2_with fail
  clear fp0 fx0 fy0
  refine Calls.mono (fawake_any _ hS.g) ?_
  rintro _ w1 ⟨rfl, hB⟩
  replace hS := hS.next hB
  clear hB
  obtain ⟨fp0, _⟩ := hS.box
  obtain ⟨fx0, fy0, _, _⟩ := fp0.cells
  go_wp2_with fail
  go_ret
  exact ⟨rfl, hS.below⟩

set_option maxRecDepth 100000 in
set_option maxHeartbeats 16000000 in
theorem fround_text (fn fd s : ByteArray) (w : World) (hG : Ground w) (hl : flong 60 [(fn, fd)] = false) (hs : 130 < s.size) :
    Calls Tryd.prog 8 #[.agg #[.string fn, .string fd], .string s] w fun e w' => e = .returned (.bool true) ∧ Below w.heap.size w w' := by
  have HL := Lib.hid hl
  clear hl
  have hs1 : (130 : Int) < s.size := by omega
  obtain ⟨W0, hW0⟩ : ∃ W0, W0 = w.alloc (.cells #[.string fn, .string fd] 24) := ⟨_, rfl⟩
  have hS : StL w W0 [(w.heap.size, fn, fd)] := by rw [hW0]; exact StL.one hG _ _
  go_enter Tryd.func8, Tryd.ntmps8
  go_upto_region 1 with fail
  rw [← hW0]
  clear hW0
  obtain ⟨fp0, _⟩ := hS.box
  obtain ⟨fx0, fy0, _, _⟩ := fp0.cells
  go_wp2_with fail
  obtain ⟨W1, hW1⟩ : ∃ W1, W1 = W0.alloc (.cells #[.string fn, .string fd] 24) := ⟨_, rfl⟩
  have hc0 : ∀ i, i < 1 → W1.cell? ⟨W0.heap.size, i * 2, none⟩ = some (.string ([(fn, fd)].getD i (⟨#[]⟩, ⟨#[]⟩)).1) ∧ W1.cell? ⟨W0.heap.size, i * 2 + 1, none⟩ = some (.string ([(fn, fd)].getD i (⟨#[]⟩, ⟨#[]⟩)).2) := by rw [hW1]; exact fgreat_cells W0 [(fn, fd)]
  have hS1 : StL w W1 [(w.heap.size, fn, fd)] := by rw [hW1]; exact hS.other _
  rw [← hW1]
  clear fp0 fx0 fy0
  clear hW1 hS
  have hS := hS1
  clear hS1
  refine (rGreat_any W1 W0.heap.size 1 [(fn, fd)] rfl (by decide) hc0).mono ?_
  rintro _ _ ⟨rfl, rfl⟩
  clear hc0
  rw [HL.out]
  obtain ⟨fp0, _⟩ := hS.box
  obtain ⟨fx0, fy0, _, _⟩ := fp0.cells
  go_wp2_with fail
  clear fp0 fx0 fy0
  refine Calls.mono (fawake_any _ hS.g) ?_
  rintro _ w1 ⟨rfl, hB⟩
  replace hS := hS.next hB
  clear hB
  obtain ⟨fp0, _⟩ := hS.box
  obtain ⟨fx0, fy0, _, _⟩ := fp0.cells
  go_wp2_with fail
  go_ret
  exact ⟨rfl, hS.below⟩

theorem fround_any (fn fd s : ByteArray) (w : World) (hG : Ground w) :
    Calls Tryd.prog 8 #[.agg #[.string fn, .string fd], .string s] w fun e w' => e = .returned (.bool true) ∧ Below w.heap.size w w' := by
  by_cases h1 : fn.size ≤ 60 ∧ fd.size ≤ 60
  · by_cases hs : s.size ≤ 130
    · by_cases hg : textP (parseV s) = s
      · exact fround_good fn fd s w hG h1.1 h1.2 hs hg
      · exact fround_bad fn fd s w hG h1.1 h1.2 hs hg
    · exact fround_text fn fd s w hG (flong_false (by simp; omega)) (by omega)
  · exact fround_long fn fd s w hG (flong_true (f := (fn, fd)) (by simp) (by show 60 < fn.size ∨ 60 < fd.size; omega))

end Go.Proofs.YtldohkfomdcpoaaDoor
