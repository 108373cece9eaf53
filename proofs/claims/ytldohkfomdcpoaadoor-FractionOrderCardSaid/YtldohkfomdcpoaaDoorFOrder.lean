/- the law FractionOrder: the walk. -/
import Derived.Test.YtldohkfomdcpoaaDoorFst
import Derived.Deep.DeepCutAuto
import Derived.Laws.NewBlocks
namespace Go.Proofs.YtldohkfomdcpoaaDoor
open Go.RowKit Fra

theorem cmp3_m {a : Int} (h : cmp3 a 0 = -1) : a < 0 := by
  rcases Int.lt_or_le a 0 with h1 | h1
  · exact h1
  · exfalso; revert h; unfold cmp3; rw [if_neg (by omega)]; split <;> decide
theorem cS_minus_first {z : Int} {D : ByteArray} (h : z < 0) (hD : cS z = D) : ∃ h0 : 0 < D.size, ((D[0]'h0).toNat : Int) = 45 := by
  subst hD
  have e : (cS z).data.toList = 45 :: Num.digs z.natAbs := by unfold cS Num.canon; rw [if_pos h]
  have h0 : 0 < (cS z).size := by rw [← size_toList, e]; simp
  refine ⟨h0, ?_⟩
  have hl : 0 < (cS z).data.toList.length := by rw [e]; simp
  have := byte_at (cS z) 0 h0 hl
  rw [← this]
  simp [e]
theorem cS_plus_first {z : Int} {D : ByteArray} (h : 0 < z) (hD : cS z = D) : ∃ h0 : 0 < D.size, ¬ ((D[0]'h0).toNat : Int) = 45 := by
  subst hD
  have e : (cS z).data.toList = Num.digs z.natAbs := by unfold cS Num.canon; rw [if_neg (by omega)]
  have hne : Num.digs z.natAbs ≠ [] := by unfold Num.digs; rw [if_neg (by omega)]; exact Num.decDigits_ne _
  have hl : 0 < (cS z).data.toList.length := by rw [e]; exact List.length_pos_iff.2 hne
  have h0 : 0 < (cS z).size := by rw [← size_toList]; exact hl
  refine ⟨h0, ?_⟩
  have := byte_at (cS z) 0 h0 hl
  rw [← this]
  have hd : ((cS z).data.toList[0]'hl) ∈ Num.digs z.natAbs := by rw [← e]; exact List.getElem_mem _
  have ha : (Num.digs z.natAbs).all Num.isDig = true := by unfold Num.digs; rw [if_neg (by omega)]; exact Num.all_decDigits _
  have := (Num.isDig_iff _).1 (List.all_eq_true.1 ha _ hd)
  omega

set_option maxRecDepth 100000 in
set_option maxHeartbeats 16000000 in
theorem forder_m (fn fd gn gd hn hd : ByteArray) (w : World) (hG : Ground w) (hf1 : fn.size ≤ 60) (hf2 : fd.size ≤ 60) (hg1 : gn.size ≤ 60) (hg2 : gd.size ≤ 60) (hh1 : hn.size ≤ 60) (hh2 : hd.size ≤ 60) (hs : cmpP (raw fn fd) (raw gn gd) = -1) :
    Calls Tryd.prog 4 #[.agg #[.string fn, .string fd], .agg #[.string gn, .string gd], .agg #[.string hn, .string hd]] w fun e w' => e = .returned (.bool true) ∧ Below w.heap.size w w' := by
  have hl : flong 60 [(fn, fd), (gn, gd), (hn, hd)] = false := flong_false (by simp; omega)
  have HL := Lib.hid hl
  obtain ⟨x, hx⟩ : ∃ x, raw fn fd = x := ⟨_, rfl⟩
  have Hf : Giv 60 fn fd x := ⟨hx, hf1, hf2⟩
  obtain ⟨y, hy⟩ : ∃ x, raw gn gd = x := ⟨_, rfl⟩
  have Hg : Giv 60 gn gd y := ⟨hy, hg1, hg2⟩
  obtain ⟨z, hz⟩ : ∃ x, raw hn hd = x := ⟨_, rfl⟩
  have Hh : Giv 60 hn hd z := ⟨hz, hh1, hh2⟩
  have xp := Hf.pos
  have yp := Hg.pos
  have zp := Hh.pos
  rw [hx, hy] at hs
  have hsg : cmp3 (subP x y).1 0 = -1 := by rw [subP_eq xp yp, ← cmpP_sign xp yp]; exact hs
  obtain ⟨D, hD⟩ : ∃ D, cS (subP x y).1 = D := ⟨_, rfl⟩
  have hDs : D.size ≤ 122 := by rw [← hD]; have := cS_size (CapP.sub (Hf.cap (by decide)) (Hg.cap (by decide)) xp yp).1; omega
  obtain ⟨hD0, hD1⟩ := cS_minus_first (cmp3_m hsg) hD
  have HD := Lib.hid hD
  have HN := Lib.hid hs
  have HSW := Lib.hid (show cmpP y x = 1 by rw [cmpP_swap, hs] <;> rfl)
  have hwr : IntKind.i64.wrap (-1) = -1 := by decide
  obtain ⟨p, hp⟩ : ∃ p, cmpP z (0, 1) = p := ⟨_, rfl⟩
  obtain ⟨m, hm⟩ : ∃ m, cmpP y z = m := ⟨_, rfl⟩
  have HP := Lib.hid hp
  have HM := Lib.hid hm
  have hmr := cmp3_range (y.1 * z.2) (z.1 * y.2)
  rw [show cmp3 (y.1 * z.2) (z.1 * y.2) = m from hm] at hmr
  have hz0 : 0 < p → 0 < z.1 := by
    rw [← hp]; unfold cmpP; rw [cmp3_pos]; intro h'; have h2 : 0 * z.2 < z.1 * 1 := h'; omega
  have HZ0 := Lib.hid hz0
  clear hl hx hy hz hs hsg hD hp hm hz0
  obtain ⟨W0, hW0⟩ : ∃ W0, W0 = ((w.alloc (.cells #[.string fn, .string fd] 24)).alloc (.cells #[.string gn, .string gd] 24)).alloc (.cells #[.string hn, .string hd] 24) := ⟨_, rfl⟩
  have hS : StL w W0 [(w.heap.size + 1 + 1, hn, hd), (w.heap.size + 1, gn, gd), (w.heap.size, fn, fd)] := by rw [hW0]; exact StL.three hG _ _ _ _ _ _
  go_enter Tryd.func4, Tryd.ntmps4
  go_upto_region 1 with fail
  rw [← hW0]
  clear hW0
  obtain ⟨fp0, fp1, fp2, _⟩ := hS.box
  obtain ⟨fx0, fy0, _, _⟩ := fp0.cells
  obtain ⟨fx1, fy1, _, _⟩ := fp1.cells
  obtain ⟨fx2, fy2, _, _⟩ := fp2.cells
  go_wp2_with fail
  obtain ⟨W1, hW1⟩ : ∃ W1, W1 = W0.alloc (.cells #[.string fn, .string fd, .string gn, .string gd, .string hn, .string hd] 24) := ⟨_, rfl⟩
  have hc0 : ∀ i, i < 3 → W1.cell? ⟨W0.heap.size, i * 2, none⟩ = some (.string ([(fn, fd), (gn, gd), (hn, hd)].getD i (⟨#[]⟩, ⟨#[]⟩)).1) ∧ W1.cell? ⟨W0.heap.size, i * 2 + 1, none⟩ = some (.string ([(fn, fd), (gn, gd), (hn, hd)].getD i (⟨#[]⟩, ⟨#[]⟩)).2) := by rw [hW1]; exact fgreat_cells W0 [(fn, fd), (gn, gd), (hn, hd)]
  have hS1 : StL w W1 [(w.heap.size + 1 + 1, hn, hd), (w.heap.size + 1, gn, gd), (w.heap.size, fn, fd)] := by rw [hW1]; exact hS.other _
  rw [← hW1]
  clear fp0 fx0 fy0 fp1 fx1 fy1 fp2 fx2 fy2
  clear hW1 hS
  have hS := hS1
  clear hS1
  refine (rGreat_any W1 W0.heap.size 3 [(fn, fd), (gn, gd), (hn, hd)] rfl (by decide) hc0).mono ?_
  rintro _ _ ⟨rfl, rfl⟩
  clear hc0
  rw [HL.out]
  obtain ⟨fp0, fp1, fp2, _⟩ := hS.box
  obtain ⟨fx0, fy0, _, _⟩ := fp0.cells
  obtain ⟨fx1, fy1, _, _⟩ := fp1.cells
  obtain ⟨fx2, fy2, _, _⟩ := fp2.cells
  go_wp2_with fail
  clear fp0 fx0 fy0 fp1 fx1 fy1 fp2 fx2 fy2
  refine Calls.mono (fCompare_v (c := -1) _ hS.g (Hf.arg (by decide)) (Hg.arg (by decide)) (HN.out)) ?_
  rintro _ w1 ⟨rfl, hB⟩
  replace hS := hS.next hB
  clear hB
  obtain ⟨fp0, fp1, fp2, _⟩ := hS.box
  obtain ⟨fx0, fy0, _, _⟩ := fp0.cells
  obtain ⟨fx1, fy1, _, _⟩ := fp1.cells
  obtain ⟨fx2, fy2, _, _⟩ := fp2.cells
  go_wp2_with fail
  clear fp0 fx0 fy0 fp1 fx1 fy1 fp2 fx2 fy2
  refine Calls.mono (fSub_v (z := subP x y) _ hS.g (Hf.arg (by decide)) (Hg.arg (by decide)) (rfl)) ?_
  rintro _ w2 ⟨rfl, hB⟩
  replace hS := hS.next hB
  clear hB
  rw [HD.out]
  go_upto_region 5 with fail
  obtain ⟨b3, hb3⟩ : ∃ b, b = w2.heap.size := ⟨_, rfl⟩
  obtain ⟨V3, hV3⟩ : ∃ V, V = w2.alloc (.cells #[.string D, .string (cD (subP x y).2)] 24) := ⟨_, rfl⟩
  have hT : StL w V3 [(b3, D, (cD (subP x y).2)), (w.heap.size + 1 + 1, hn, hd), (w.heap.size + 1, gn, gd), (w.heap.size, fn, fd)] := by rw [hV3, hb3]; exact hS.alloc _ _
  rw [← hb3, ← hV3]
  clear hV3 hb3 hS
  have hS := hT
  clear hT
  have hD2 : (0 : Int) < D.size := by omega
  obtain ⟨fp0, fp1, fp2, fp3, _⟩ := hS.box
  obtain ⟨fx0, fy0, _, _⟩ := fp0.cells
  obtain ⟨fx1, fy1, _, _⟩ := fp1.cells
  obtain ⟨fx2, fy2, _, _⟩ := fp2.cells
  obtain ⟨fx3, fy3, _, _⟩ := fp3.cells
  go_upto_region 10 with fail
  clear fp0 fx0 fy0 fp1 fx1 fy1 fp2 fx2 fy2 fp3 fx3 fy3
  clear hD1 hD2
  try clear hD0
  clear hDs
  have HMR := Lib.hid hmr
  clear hmr
  obtain ⟨fp0, fp1, fp2, fp3, _⟩ := hS.box
  obtain ⟨fx0, fy0, _, _⟩ := fp0.cells
  obtain ⟨fx1, fy1, _, _⟩ := fp1.cells
  obtain ⟨fx2, fy2, _, _⟩ := fp2.cells
  obtain ⟨fx3, fy3, _, _⟩ := fp3.cells
  try go_upto_region 10 with fail
  have HS := Lib.hid hS
  clear hS
  go_cut [10] (fun s10 wx => s10 = .bool true ∧ StL w wx [(b3, D, (cD (subP x y).2)), (w.heap.size + 1 + 1, hn, hd), (w.heap.size + 1, gn, gd), (w.heap.size, fn, fd)])
  case first =>
    go_region_held3 (fun w' => w'.cell? ⟨b3, 0, none⟩ = some (.string D) ∧ w'.cell? ⟨b3, 1, none⟩ = some (.string (cD (subP x y).2)) ∧ w'.cell? ⟨w.heap.size + 1 + 1, 0, none⟩ = some (.string hn) ∧ w'.cell? ⟨w.heap.size + 1 + 1, 1, none⟩ = some (.string hd) ∧ w'.cell? ⟨w.heap.size + 1, 0, none⟩ = some (.string gn) ∧ w'.cell? ⟨w.heap.size + 1, 1, none⟩ = some (.string gd) ∧ w'.cell? ⟨w.heap.size, 0, none⟩ = some (.string fn) ∧ w'.cell? ⟨w.heap.size, 1, none⟩ = some (.string fd))
      (go_keep)
      (first
    | (go_at_call 16;
         (first
           | (with_reducible refine Calls.mono (fCompare_v (c := 1) _ (by first | exact HS.out.g | exact HS.out.drew.g | exact (HS.out.drewN _).g) (Hg.arg (by decide)) (Hf.arg (by decide)) (HSW.out)) ?_)
           | (with_reducible refine Calls.mono (fCompare_v (c := -1) _ (by first | exact HS.out.g | exact HS.out.drew.g | exact (HS.out.drewN _).g) (Val.of (k := 121) (CapP.add (Hf.cap (by decide)) (Hh.cap (by decide)) Hf.pos Hh.pos) (addP_pos Hf.pos Hh.pos) (by decide)) (Val.of (k := 121) (CapP.add (Hg.cap (by decide)) (Hh.cap (by decide)) Hg.pos Hh.pos) (addP_pos Hg.pos Hh.pos) (by decide)) ((cmpP_add xp yp zp).trans HN.out)) ?_));
         (rintro e WX ⟨rfl, hB1⟩);
         (have HS2 : StL w WX [(b3, D, (cD (subP x y).2)), (w.heap.size + 1 + 1, hn, hd), (w.heap.size + 1, gn, gd), (w.heap.size, fn, fd)] := (by first | exact HS.out.next hB1 | exact HS.out.next1 hB1 | exact HS.out.nextD hB1));
         (replace HS := Lib.hid HS2);
         (clear hB1 HS2);
         (obtain ⟨fp0, fp1, fp2, fp3, _⟩ := HS.out.box);
         (obtain ⟨fx0, fy0, _, _⟩ := fp0.cells);
         (obtain ⟨fx1, fy1, _, _⟩ := fp1.cells);
         (obtain ⟨fx2, fy2, _, _⟩ := fp2.cells);
         (obtain ⟨fx3, fy3, _, _⟩ := fp3.cells))
    | (go_at_call 11;
         (first
           | (with_reducible refine Calls.mono (fAdd_v (z := addP x z) _ (by first | exact HS.out.g | exact HS.out.drew.g | exact (HS.out.drewN _).g) (Hf.arg (by decide)) (Hh.arg (by decide)) (rfl)) ?_)
           | (with_reducible refine Calls.mono (fAdd_v (z := addP y z) _ (by first | exact HS.out.g | exact HS.out.drew.g | exact (HS.out.drewN _).g) (Hg.arg (by decide)) (Hh.arg (by decide)) (rfl)) ?_));
         (rintro e WX ⟨rfl, hB1⟩);
         (have HS2 : StL w WX [(b3, D, (cD (subP x y).2)), (w.heap.size + 1 + 1, hn, hd), (w.heap.size + 1, gn, gd), (w.heap.size, fn, fd)] := (by first | exact HS.out.next hB1 | exact HS.out.next1 hB1 | exact HS.out.nextD hB1));
         (replace HS := Lib.hid HS2);
         (clear hB1 HS2);
         (obtain ⟨fp0, fp1, fp2, fp3, _⟩ := HS.out.box);
         (obtain ⟨fx0, fy0, _, _⟩ := fp0.cells);
         (obtain ⟨fx1, fy1, _, _⟩ := fp1.cells);
         (obtain ⟨fx2, fy2, _, _⟩ := fp2.cells);
         (obtain ⟨fx3, fy3, _, _⟩ := fp3.cells)))
    all_goals go_wp2_with fail
    all_goals go_meet
    all_goals exact ⟨rfl, (by first | exact HS.out | exact HS.out.drew | exact HS.out.drewN _)⟩
  clear HS
  clear fp0 fx0 fy0 fp1 fx1 fy1 fp2 fx2 fy2 fp3 fx3 fy3
  obtain ⟨rfl, hS⟩ := hcut
  obtain ⟨w4, hw⟩ : ∃ W, W = wc := ⟨_, rfl⟩
  rw [← hw] at hS
  rw [← hw]
  clear hw
  try go_upto_region 11 with fail
  obtain ⟨fp0, fp1, fp2, fp3, _⟩ := hS.box
  obtain ⟨fx0, fy0, _, _⟩ := fp0.cells
  obtain ⟨fx1, fy1, _, _⟩ := fp1.cells
  obtain ⟨fx2, fy2, _, _⟩ := fp2.cells
  obtain ⟨fx3, fy3, _, _⟩ := fp3.cells
  go_wp2_with fail
  clear fp0 fx0 fy0 fp1 fx1 fy1 fp2 fx2 fy2 fp3 fx3 fy3
  refine Calls.mono (fCompare_v (c := p) _ hS.g (Hh.arg (by decide)) Val.zero (HP.out)) ?_
  rintro _ w5 ⟨rfl, hB⟩
  replace hS := hS.next hB
  clear hB
  by_cases hpp : 0 < p
  · obtain ⟨fp0, fp1, fp2, fp3, _⟩ := hS.box
    obtain ⟨fx0, fy0, _, _⟩ := fp0.cells
    obtain ⟨fx1, fy1, _, _⟩ := fp1.cells
    obtain ⟨fx2, fy2, _, _⟩ := fp2.cells
    obtain ⟨fx3, fy3, _, _⟩ := fp3.cells
    go_upto_region 12 with fail
    clear fp0 fx0 fy0 fp1 fx1 fy1 fp2 fx2 fy2 fp3 fx3 fy3
    obtain ⟨fp0, fp1, fp2, fp3, _⟩ := hS.box
    obtain ⟨fx0, fy0, _, _⟩ := fp0.cells
    obtain ⟨fx1, fy1, _, _⟩ := fp1.cells
    obtain ⟨fx2, fy2, _, _⟩ := fp2.cells
    obtain ⟨fx3, fy3, _, _⟩ := fp3.cells
    try go_upto_region 12 with fail
    have HS := Lib.hid hS
    clear hS
    go_cut [10] (fun s10 wx => s10 = .bool true ∧ StL w wx [(b3, D, (cD (subP x y).2)), (w.heap.size + 1 + 1, hn, hd), (w.heap.size + 1, gn, gd), (w.heap.size, fn, fd)])
    case first =>
      go_region_held3 (fun w' => w'.cell? ⟨b3, 0, none⟩ = some (.string D) ∧ w'.cell? ⟨b3, 1, none⟩ = some (.string (cD (subP x y).2)) ∧ w'.cell? ⟨w.heap.size + 1 + 1, 0, none⟩ = some (.string hn) ∧ w'.cell? ⟨w.heap.size + 1 + 1, 1, none⟩ = some (.string hd) ∧ w'.cell? ⟨w.heap.size + 1, 0, none⟩ = some (.string gn) ∧ w'.cell? ⟨w.heap.size + 1, 1, none⟩ = some (.string gd) ∧ w'.cell? ⟨w.heap.size, 0, none⟩ = some (.string fn) ∧ w'.cell? ⟨w.heap.size, 1, none⟩ = some (.string fd))
        (go_keep)
        (first
      | (go_at_call 12;
           (first
             | (with_reducible refine Calls.mono (fMul_v (z := mulP x z) _ (by first | exact HS.out.g | exact HS.out.drew.g | exact (HS.out.drewN _).g) (Hf.arg (by decide)) (Hh.arg (by decide)) (rfl)) ?_)
             | (with_reducible refine Calls.mono (fMul_v (z := mulP y z) _ (by first | exact HS.out.g | exact HS.out.drew.g | exact (HS.out.drewN _).g) (Hg.arg (by decide)) (Hh.arg (by decide)) (rfl)) ?_));
           (rintro e WX ⟨rfl, hB1⟩);
           (have HS2 : StL w WX [(b3, D, (cD (subP x y).2)), (w.heap.size + 1 + 1, hn, hd), (w.heap.size + 1, gn, gd), (w.heap.size, fn, fd)] := (by first | exact HS.out.next hB1 | exact HS.out.next1 hB1 | exact HS.out.nextD hB1));
           (replace HS := Lib.hid HS2);
           (clear hB1 HS2);
           (obtain ⟨fp0, fp1, fp2, fp3, _⟩ := HS.out.box);
           (obtain ⟨fx0, fy0, _, _⟩ := fp0.cells);
           (obtain ⟨fx1, fy1, _, _⟩ := fp1.cells);
           (obtain ⟨fx2, fy2, _, _⟩ := fp2.cells);
           (obtain ⟨fx3, fy3, _, _⟩ := fp3.cells))
      | (go_at_call 16;
           (first
             | (with_reducible refine Calls.mono (fCompare_v (c := -1) _ (by first | exact HS.out.g | exact HS.out.drew.g | exact (HS.out.drewN _).g) (Val.of (k := 120) (CapP.mul (Hf.cap (by decide)) (Hh.cap (by decide)) Hf.pos Hh.pos) (mulP_pos Hf.pos Hh.pos) (by decide)) (Val.of (k := 120) (CapP.mul (Hg.cap (by decide)) (Hh.cap (by decide)) Hg.pos Hh.pos) (mulP_pos Hg.pos Hh.pos) (by decide)) ((cmpP_mul xp yp zp (HZ0.out hpp)).trans HN.out)) ?_));
           (rintro e WX ⟨rfl, hB1⟩);
           (have HS2 : StL w WX [(b3, D, (cD (subP x y).2)), (w.heap.size + 1 + 1, hn, hd), (w.heap.size + 1, gn, gd), (w.heap.size, fn, fd)] := (by first | exact HS.out.next hB1 | exact HS.out.next1 hB1 | exact HS.out.nextD hB1));
           (replace HS := Lib.hid HS2);
           (clear hB1 HS2);
           (obtain ⟨fp0, fp1, fp2, fp3, _⟩ := HS.out.box);
           (obtain ⟨fx0, fy0, _, _⟩ := fp0.cells);
           (obtain ⟨fx1, fy1, _, _⟩ := fp1.cells);
           (obtain ⟨fx2, fy2, _, _⟩ := fp2.cells);
           (obtain ⟨fx3, fy3, _, _⟩ := fp3.cells)))
      all_goals go_wp2_with fail
      all_goals go_meet
      all_goals exact ⟨rfl, (by first | exact HS.out | exact HS.out.drew | exact HS.out.drewN _)⟩
    clear HS
    clear fp0 fx0 fy0 fp1 fx1 fy1 fp2 fx2 fy2 fp3 fx3 fy3
    obtain ⟨rfl, hS⟩ := hcut
    obtain ⟨w6, hw⟩ : ∃ W, W = wc := ⟨_, rfl⟩
    rw [← hw] at hS
    rw [← hw]
    clear hw
    obtain ⟨fp0, fp1, fp2, fp3, _⟩ := hS.box
    obtain ⟨fx0, fy0, _, _⟩ := fp0.cells
    obtain ⟨fx1, fy1, _, _⟩ := fp1.cells
    obtain ⟨fx2, fy2, _, _⟩ := fp2.cells
    obtain ⟨fx3, fy3, _, _⟩ := fp3.cells
    go_upto_region 13 with fail
    clear fp0 fx0 fy0 fp1 fx1 fy1 fp2 fx2 fy2 fp3 fx3 fy3
    obtain ⟨fp0, fp1, fp2, fp3, _⟩ := hS.box
    obtain ⟨fx0, fy0, _, _⟩ := fp0.cells
    obtain ⟨fx1, fy1, _, _⟩ := fp1.cells
    obtain ⟨fx2, fy2, _, _⟩ := fp2.cells
    obtain ⟨fx3, fy3, _, _⟩ := fp3.cells
    go_wp2_with fail
    clear fp0 fx0 fy0 fp1 fx1 fy1 fp2 fx2 fy2 fp3 fx3 fy3
    refine Calls.mono (fCompare_v (c := m) _ hS.g (Hg.arg (by decide)) (Hh.arg (by decide)) (HM.out)) ?_
    rintro _ w7 ⟨rfl, hB⟩
    replace hS := hS.next hB
    clear hB
    have hmc : m = -1 ∨ m = 0 ∨ m = 1 := by have := HMR.out; omega
    rcases hmc with rfl | rfl | rfl
    · have HTR := Lib.hid (show cmpP x z = -1 by rw [cmpP_trans xp yp zp (by rw [HN.out]; decide) (by rw [HM.out]; decide), HN.out, HM.out]; decide)
      have hmn : min (-1 : Int) (-1) = -1 := by decide
      obtain ⟨fp0, fp1, fp2, fp3, _⟩ := hS.box
      obtain ⟨fx0, fy0, _, _⟩ := fp0.cells
      obtain ⟨fx1, fy1, _, _⟩ := fp1.cells
      obtain ⟨fx2, fy2, _, _⟩ := fp2.cells
      obtain ⟨fx3, fy3, _, _⟩ := fp3.cells
      go_wp2_with fail
      clear fp0 fx0 fy0 fp1 fx1 fy1 fp2 fx2 fy2 fp3 fx3 fy3
      refine Calls.mono (fCompare_v (c := -1) _ hS.g (Hf.arg (by decide)) (Hh.arg (by decide)) (HTR.out)) ?_
      rintro _ w8 ⟨rfl, hB⟩
      replace hS := hS.next hB
      clear hB
      obtain ⟨fp0, fp1, fp2, fp3, _⟩ := hS.box
      obtain ⟨fx0, fy0, _, _⟩ := fp0.cells
      obtain ⟨fx1, fy1, _, _⟩ := fp1.cells
      obtain ⟨fx2, fy2, _, _⟩ := fp2.cells
      obtain ⟨fx3, fy3, _, _⟩ := fp3.cells
      go_wp2_with fail
      clear fp0 fx0 fy0 fp1 fx1 fy1 fp2 fx2 fy2 fp3 fx3 fy3
      refine Calls.mono (fawake_any _ hS.g) ?_
      rintro _ w9 ⟨rfl, hB⟩
      replace hS := hS.next hB
      clear hB
      obtain ⟨fp0, fp1, fp2, fp3, _⟩ := hS.box
      obtain ⟨fx0, fy0, _, _⟩ := fp0.cells
      obtain ⟨fx1, fy1, _, _⟩ := fp1.cells
      obtain ⟨fx2, fy2, _, _⟩ := fp2.cells
      obtain ⟨fx3, fy3, _, _⟩ := fp3.cells
      go_wp2_with fail
      go_ret
      exact ⟨rfl, hS.below⟩
    · have HTR := Lib.hid (show cmpP x z = -1 by rw [cmpP_trans xp yp zp (by rw [HN.out]; decide) (by rw [HM.out]; decide), HN.out, HM.out]; decide)
      have hmn : min (-1 : Int) (0) = -1 := by decide
      obtain ⟨fp0, fp1, fp2, fp3, _⟩ := hS.box
      obtain ⟨fx0, fy0, _, _⟩ := fp0.cells
      obtain ⟨fx1, fy1, _, _⟩ := fp1.cells
      obtain ⟨fx2, fy2, _, _⟩ := fp2.cells
      obtain ⟨fx3, fy3, _, _⟩ := fp3.cells
      go_wp2_with fail
      clear fp0 fx0 fy0 fp1 fx1 fy1 fp2 fx2 fy2 fp3 fx3 fy3
      refine Calls.mono (fCompare_v (c := -1) _ hS.g (Hf.arg (by decide)) (Hh.arg (by decide)) (HTR.out)) ?_
      rintro _ w8 ⟨rfl, hB⟩
      replace hS := hS.next hB
      clear hB
      obtain ⟨fp0, fp1, fp2, fp3, _⟩ := hS.box
      obtain ⟨fx0, fy0, _, _⟩ := fp0.cells
      obtain ⟨fx1, fy1, _, _⟩ := fp1.cells
      obtain ⟨fx2, fy2, _, _⟩ := fp2.cells
      obtain ⟨fx3, fy3, _, _⟩ := fp3.cells
      go_wp2_with fail
      clear fp0 fx0 fy0 fp1 fx1 fy1 fp2 fx2 fy2 fp3 fx3 fy3
      refine Calls.mono (fawake_any _ hS.g) ?_
      rintro _ w9 ⟨rfl, hB⟩
      replace hS := hS.next hB
      clear hB
      obtain ⟨fp0, fp1, fp2, fp3, _⟩ := hS.box
      obtain ⟨fx0, fy0, _, _⟩ := fp0.cells
      obtain ⟨fx1, fy1, _, _⟩ := fp1.cells
      obtain ⟨fx2, fy2, _, _⟩ := fp2.cells
      obtain ⟨fx3, fy3, _, _⟩ := fp3.cells
      go_wp2_with fail
      go_ret
      exact ⟨rfl, hS.below⟩
    · obtain ⟨fp0, fp1, fp2, fp3, _⟩ := hS.box
      obtain ⟨fx0, fy0, _, _⟩ := fp0.cells
      obtain ⟨fx1, fy1, _, _⟩ := fp1.cells
      obtain ⟨fx2, fy2, _, _⟩ := fp2.cells
      obtain ⟨fx3, fy3, _, _⟩ := fp3.cells
      go_wp2_with fail
      clear fp0 fx0 fy0 fp1 fx1 fy1 fp2 fx2 fy2 fp3 fx3 fy3
      refine Calls.mono (fawake_any _ hS.g) ?_
      rintro _ w8 ⟨rfl, hB⟩
      replace hS := hS.next hB
      clear hB
      obtain ⟨fp0, fp1, fp2, fp3, _⟩ := hS.box
      obtain ⟨fx0, fy0, _, _⟩ := fp0.cells
      obtain ⟨fx1, fy1, _, _⟩ := fp1.cells
      obtain ⟨fx2, fy2, _, _⟩ := fp2.cells
      obtain ⟨fx3, fy3, _, _⟩ := fp3.cells
      go_wp2_with fail
      go_ret
      exact ⟨rfl, hS.below⟩
  · obtain ⟨fp0, fp1, fp2, fp3, _⟩ := hS.box
    obtain ⟨fx0, fy0, _, _⟩ := fp0.cells
    obtain ⟨fx1, fy1, _, _⟩ := fp1.cells
    obtain ⟨fx2, fy2, _, _⟩ := fp2.cells
    obtain ⟨fx3, fy3, _, _⟩ := fp3.cells
    go_upto_region 13 with fail
    clear fp0 fx0 fy0 fp1 fx1 fy1 fp2 fx2 fy2 fp3 fx3 fy3
    obtain ⟨fp0, fp1, fp2, fp3, _⟩ := hS.box
    obtain ⟨fx0, fy0, _, _⟩ := fp0.cells
    obtain ⟨fx1, fy1, _, _⟩ := fp1.cells
    obtain ⟨fx2, fy2, _, _⟩ := fp2.cells
    obtain ⟨fx3, fy3, _, _⟩ := fp3.cells
    go_wp2_with fail
    clear fp0 fx0 fy0 fp1 fx1 fy1 fp2 fx2 fy2 fp3 fx3 fy3
    refine Calls.mono (fCompare_v (c := m) _ hS.g (Hg.arg (by decide)) (Hh.arg (by decide)) (HM.out)) ?_
    rintro _ w6 ⟨rfl, hB⟩
    replace hS := hS.next hB
    clear hB
    have hmc : m = -1 ∨ m = 0 ∨ m = 1 := by have := HMR.out; omega
    rcases hmc with rfl | rfl | rfl
    · have HTR := Lib.hid (show cmpP x z = -1 by rw [cmpP_trans xp yp zp (by rw [HN.out]; decide) (by rw [HM.out]; decide), HN.out, HM.out]; decide)
      have hmn : min (-1 : Int) (-1) = -1 := by decide
      obtain ⟨fp0, fp1, fp2, fp3, _⟩ := hS.box
      obtain ⟨fx0, fy0, _, _⟩ := fp0.cells
      obtain ⟨fx1, fy1, _, _⟩ := fp1.cells
      obtain ⟨fx2, fy2, _, _⟩ := fp2.cells
      obtain ⟨fx3, fy3, _, _⟩ := fp3.cells
      go_wp2_with fail
      clear fp0 fx0 fy0 fp1 fx1 fy1 fp2 fx2 fy2 fp3 fx3 fy3
      refine Calls.mono (fCompare_v (c := -1) _ hS.g (Hf.arg (by decide)) (Hh.arg (by decide)) (HTR.out)) ?_
      rintro _ w7 ⟨rfl, hB⟩
      replace hS := hS.next hB
      clear hB
      obtain ⟨fp0, fp1, fp2, fp3, _⟩ := hS.box
      obtain ⟨fx0, fy0, _, _⟩ := fp0.cells
      obtain ⟨fx1, fy1, _, _⟩ := fp1.cells
      obtain ⟨fx2, fy2, _, _⟩ := fp2.cells
      obtain ⟨fx3, fy3, _, _⟩ := fp3.cells
      go_wp2_with fail
      clear fp0 fx0 fy0 fp1 fx1 fy1 fp2 fx2 fy2 fp3 fx3 fy3
      refine Calls.mono (fawake_any _ hS.g) ?_
      rintro _ w8 ⟨rfl, hB⟩
      replace hS := hS.next hB
      clear hB
      obtain ⟨fp0, fp1, fp2, fp3, _⟩ := hS.box
      obtain ⟨fx0, fy0, _, _⟩ := fp0.cells
      obtain ⟨fx1, fy1, _, _⟩ := fp1.cells
      obtain ⟨fx2, fy2, _, _⟩ := fp2.cells
      obtain ⟨fx3, fy3, _, _⟩ := fp3.cells
      go_wp2_with fail
      go_ret
      exact ⟨rfl, hS.below⟩
    · have HTR := Lib.hid (show cmpP x z = -1 by rw [cmpP_trans xp yp zp (by rw [HN.out]; decide) (by rw [HM.out]; decide), HN.out, HM.out]; decide)
      have hmn : min (-1 : Int) (0) = -1 := by decide
      obtain ⟨fp0, fp1, fp2, fp3, _⟩ := hS.box
      obtain ⟨fx0, fy0, _, _⟩ := fp0.cells
      obtain ⟨fx1, fy1, _, _⟩ := fp1.cells
      obtain ⟨fx2, fy2, _, _⟩ := fp2.cells
      obtain ⟨fx3, fy3, _, _⟩ := fp3.cells
      go_wp2_with fail
      clear fp0 fx0 fy0 fp1 fx1 fy1 fp2 fx2 fy2 fp3 fx3 fy3
      refine Calls.mono (fCompare_v (c := -1) _ hS.g (Hf.arg (by decide)) (Hh.arg (by decide)) (HTR.out)) ?_
      rintro _ w7 ⟨rfl, hB⟩
      replace hS := hS.next hB
      clear hB
      obtain ⟨fp0, fp1, fp2, fp3, _⟩ := hS.box
      obtain ⟨fx0, fy0, _, _⟩ := fp0.cells
      obtain ⟨fx1, fy1, _, _⟩ := fp1.cells
      obtain ⟨fx2, fy2, _, _⟩ := fp2.cells
      obtain ⟨fx3, fy3, _, _⟩ := fp3.cells
      go_wp2_with fail
      clear fp0 fx0 fy0 fp1 fx1 fy1 fp2 fx2 fy2 fp3 fx3 fy3
      refine Calls.mono (fawake_any _ hS.g) ?_
      rintro _ w8 ⟨rfl, hB⟩
      replace hS := hS.next hB
      clear hB
      obtain ⟨fp0, fp1, fp2, fp3, _⟩ := hS.box
      obtain ⟨fx0, fy0, _, _⟩ := fp0.cells
      obtain ⟨fx1, fy1, _, _⟩ := fp1.cells
      obtain ⟨fx2, fy2, _, _⟩ := fp2.cells
      obtain ⟨fx3, fy3, _, _⟩ := fp3.cells
      go_wp2_with fail
      go_ret
      exact ⟨rfl, hS.below⟩
    · obtain ⟨fp0, fp1, fp2, fp3, _⟩ := hS.box
      obtain ⟨fx0, fy0, _, _⟩ := fp0.cells
      obtain ⟨fx1, fy1, _, _⟩ := fp1.cells
      obtain ⟨fx2, fy2, _, _⟩ := fp2.cells
      obtain ⟨fx3, fy3, _, _⟩ := fp3.cells
      go_wp2_with fail
      clear fp0 fx0 fy0 fp1 fx1 fy1 fp2 fx2 fy2 fp3 fx3 fy3
      refine Calls.mono (fawake_any _ hS.g) ?_
      rintro _ w7 ⟨rfl, hB⟩
      replace hS := hS.next hB
      clear hB
      obtain ⟨fp0, fp1, fp2, fp3, _⟩ := hS.box
      obtain ⟨fx0, fy0, _, _⟩ := fp0.cells
      obtain ⟨fx1, fy1, _, _⟩ := fp1.cells
      obtain ⟨fx2, fy2, _, _⟩ := fp2.cells
      obtain ⟨fx3, fy3, _, _⟩ := fp3.cells
      go_wp2_with fail
      go_ret
      exact ⟨rfl, hS.below⟩

set_option maxRecDepth 100000 in
set_option maxHeartbeats 16000000 in
theorem forder_z (fn fd gn gd hn hd : ByteArray) (w : World) (hG : Ground w) (hf1 : fn.size ≤ 60) (hf2 : fd.size ≤ 60) (hg1 : gn.size ≤ 60) (hg2 : gd.size ≤ 60) (hh1 : hn.size ≤ 60) (hh2 : hd.size ≤ 60) (hs : cmpP (raw fn fd) (raw gn gd) = 0) :
    Calls Tryd.prog 4 #[.agg #[.string fn, .string fd], .agg #[.string gn, .string gd], .agg #[.string hn, .string hd]] w fun e w' => e = .returned (.bool true) ∧ Below w.heap.size w w' := by
  have hl : flong 60 [(fn, fd), (gn, gd), (hn, hd)] = false := flong_false (by simp; omega)
  have HL := Lib.hid hl
  obtain ⟨x, hx⟩ : ∃ x, raw fn fd = x := ⟨_, rfl⟩
  have Hf : Giv 60 fn fd x := ⟨hx, hf1, hf2⟩
  obtain ⟨y, hy⟩ : ∃ x, raw gn gd = x := ⟨_, rfl⟩
  have Hg : Giv 60 gn gd y := ⟨hy, hg1, hg2⟩
  obtain ⟨z, hz⟩ : ∃ x, raw hn hd = x := ⟨_, rfl⟩
  have Hh : Giv 60 hn hd z := ⟨hz, hh1, hh2⟩
  have xp := Hf.pos
  have yp := Hg.pos
  have zp := Hh.pos
  rw [hx, hy] at hs
  have hsg : cmp3 (subP x y).1 0 = 0 := by rw [subP_eq xp yp, ← cmpP_sign xp yp]; exact hs
  obtain ⟨D, hD⟩ : ∃ D, cS (subP x y).1 = D := ⟨_, rfl⟩
  have hDs : D.size ≤ 122 := by rw [← hD]; have := cS_size (CapP.sub (Hf.cap (by decide)) (Hg.cap (by decide)) xp yp).1; omega
  have hDn : D = ⟨#[]⟩ := by rw [← hD, show (subP x y).1 = 0 from by rw [cmp3_zero] at hsg; exact hsg, cS_zero]
  subst hDn
  have HD := Lib.hid hD
  have HN := Lib.hid hs
  have HSW := Lib.hid (show cmpP y x = 0 by rw [cmpP_swap, hs] <;> rfl)
  have hwr : IntKind.i64.wrap (0) = 0 := by decide
  obtain ⟨p, hp⟩ : ∃ p, cmpP z (0, 1) = p := ⟨_, rfl⟩
  obtain ⟨m, hm⟩ : ∃ m, cmpP y z = m := ⟨_, rfl⟩
  have HP := Lib.hid hp
  have HM := Lib.hid hm
  have hmr := cmp3_range (y.1 * z.2) (z.1 * y.2)
  rw [show cmp3 (y.1 * z.2) (z.1 * y.2) = m from hm] at hmr
  have hz0 : 0 < p → 0 < z.1 := by
    rw [← hp]; unfold cmpP; rw [cmp3_pos]; intro h'; have h2 : 0 * z.2 < z.1 * 1 := h'; omega
  have HZ0 := Lib.hid hz0
  clear hl hx hy hz hs hsg hD hp hm hz0
  obtain ⟨W0, hW0⟩ : ∃ W0, W0 = ((w.alloc (.cells #[.string fn, .string fd] 24)).alloc (.cells #[.string gn, .string gd] 24)).alloc (.cells #[.string hn, .string hd] 24) := ⟨_, rfl⟩
  have hS : StL w W0 [(w.heap.size + 1 + 1, hn, hd), (w.heap.size + 1, gn, gd), (w.heap.size, fn, fd)] := by rw [hW0]; exact StL.three hG _ _ _ _ _ _
  go_enter Tryd.func4, Tryd.ntmps4
  go_upto_region 1 with fail
  rw [← hW0]
  clear hW0
  obtain ⟨fp0, fp1, fp2, _⟩ := hS.box
  obtain ⟨fx0, fy0, _, _⟩ := fp0.cells
  obtain ⟨fx1, fy1, _, _⟩ := fp1.cells
  obtain ⟨fx2, fy2, _, _⟩ := fp2.cells
  go_wp2_with fail
  obtain ⟨W1, hW1⟩ : ∃ W1, W1 = W0.alloc (.cells #[.string fn, .string fd, .string gn, .string gd, .string hn, .string hd] 24) := ⟨_, rfl⟩
  have hc0 : ∀ i, i < 3 → W1.cell? ⟨W0.heap.size, i * 2, none⟩ = some (.string ([(fn, fd), (gn, gd), (hn, hd)].getD i (⟨#[]⟩, ⟨#[]⟩)).1) ∧ W1.cell? ⟨W0.heap.size, i * 2 + 1, none⟩ = some (.string ([(fn, fd), (gn, gd), (hn, hd)].getD i (⟨#[]⟩, ⟨#[]⟩)).2) := by rw [hW1]; exact fgreat_cells W0 [(fn, fd), (gn, gd), (hn, hd)]
  have hS1 : StL w W1 [(w.heap.size + 1 + 1, hn, hd), (w.heap.size + 1, gn, gd), (w.heap.size, fn, fd)] := by rw [hW1]; exact hS.other _
  rw [← hW1]
  clear fp0 fx0 fy0 fp1 fx1 fy1 fp2 fx2 fy2
  clear hW1 hS
  have hS := hS1
  clear hS1
  refine (rGreat_any W1 W0.heap.size 3 [(fn, fd), (gn, gd), (hn, hd)] rfl (by decide) hc0).mono ?_
  rintro _ _ ⟨rfl, rfl⟩
  clear hc0
  rw [HL.out]
  obtain ⟨fp0, fp1, fp2, _⟩ := hS.box
  obtain ⟨fx0, fy0, _, _⟩ := fp0.cells
  obtain ⟨fx1, fy1, _, _⟩ := fp1.cells
  obtain ⟨fx2, fy2, _, _⟩ := fp2.cells
  go_wp2_with fail
  clear fp0 fx0 fy0 fp1 fx1 fy1 fp2 fx2 fy2
  refine Calls.mono (fCompare_v (c := 0) _ hS.g (Hf.arg (by decide)) (Hg.arg (by decide)) (HN.out)) ?_
  rintro _ w1 ⟨rfl, hB⟩
  replace hS := hS.next hB
  clear hB
  obtain ⟨fp0, fp1, fp2, _⟩ := hS.box
  obtain ⟨fx0, fy0, _, _⟩ := fp0.cells
  obtain ⟨fx1, fy1, _, _⟩ := fp1.cells
  obtain ⟨fx2, fy2, _, _⟩ := fp2.cells
  go_wp2_with fail
  clear fp0 fx0 fy0 fp1 fx1 fy1 fp2 fx2 fy2
  refine Calls.mono (fSub_v (z := subP x y) _ hS.g (Hf.arg (by decide)) (Hg.arg (by decide)) (rfl)) ?_
  rintro _ w2 ⟨rfl, hB⟩
  replace hS := hS.next hB
  clear hB
  rw [HD.out]
  go_upto_region 5 with fail
  obtain ⟨b3, hb3⟩ : ∃ b, b = w2.heap.size := ⟨_, rfl⟩
  obtain ⟨V3, hV3⟩ : ∃ V, V = w2.alloc (.cells #[.string ⟨#[]⟩, .string (cD (subP x y).2)] 24) := ⟨_, rfl⟩
  have hT : StL w V3 [(b3, ⟨#[]⟩, (cD (subP x y).2)), (w.heap.size + 1 + 1, hn, hd), (w.heap.size + 1, gn, gd), (w.heap.size, fn, fd)] := by rw [hV3, hb3]; exact hS.alloc _ _
  rw [← hb3, ← hV3]
  clear hV3 hb3 hS
  have hS := hT
  clear hT
  obtain ⟨fp0, fp1, fp2, fp3, _⟩ := hS.box
  obtain ⟨fx0, fy0, _, _⟩ := fp0.cells
  obtain ⟨fx1, fy1, _, _⟩ := fp1.cells
  obtain ⟨fx2, fy2, _, _⟩ := fp2.cells
  obtain ⟨fx3, fy3, _, _⟩ := fp3.cells
  go_upto_region 10 with fail
  clear fp0 fx0 fy0 fp1 fx1 fy1 fp2 fx2 fy2 fp3 fx3 fy3
  clear hDs
  have HMR := Lib.hid hmr
  clear hmr
  obtain ⟨fp0, fp1, fp2, fp3, _⟩ := hS.box
  obtain ⟨fx0, fy0, _, _⟩ := fp0.cells
  obtain ⟨fx1, fy1, _, _⟩ := fp1.cells
  obtain ⟨fx2, fy2, _, _⟩ := fp2.cells
  obtain ⟨fx3, fy3, _, _⟩ := fp3.cells
  try go_upto_region 10 with fail
  have HS := Lib.hid hS
  clear hS
  go_cut [10] (fun s10 wx => s10 = .bool true ∧ StL w wx [(b3, ⟨#[]⟩, (cD (subP x y).2)), (w.heap.size + 1 + 1, hn, hd), (w.heap.size + 1, gn, gd), (w.heap.size, fn, fd)])
  case first =>
    go_region_held3 (fun w' => w'.cell? ⟨b3, 0, none⟩ = some (.string ⟨#[]⟩) ∧ w'.cell? ⟨b3, 1, none⟩ = some (.string (cD (subP x y).2)) ∧ w'.cell? ⟨w.heap.size + 1 + 1, 0, none⟩ = some (.string hn) ∧ w'.cell? ⟨w.heap.size + 1 + 1, 1, none⟩ = some (.string hd) ∧ w'.cell? ⟨w.heap.size + 1, 0, none⟩ = some (.string gn) ∧ w'.cell? ⟨w.heap.size + 1, 1, none⟩ = some (.string gd) ∧ w'.cell? ⟨w.heap.size, 0, none⟩ = some (.string fn) ∧ w'.cell? ⟨w.heap.size, 1, none⟩ = some (.string fd))
      (go_keep)
      (first
    | (go_at_call 16;
         (first
           | (with_reducible refine Calls.mono (fCompare_v (c := 0) _ (by first | exact HS.out.g | exact HS.out.drew.g | exact (HS.out.drewN _).g) (Hg.arg (by decide)) (Hf.arg (by decide)) (HSW.out)) ?_)
           | (with_reducible refine Calls.mono (fCompare_v (c := 0) _ (by first | exact HS.out.g | exact HS.out.drew.g | exact (HS.out.drewN _).g) (Val.of (k := 121) (CapP.add (Hf.cap (by decide)) (Hh.cap (by decide)) Hf.pos Hh.pos) (addP_pos Hf.pos Hh.pos) (by decide)) (Val.of (k := 121) (CapP.add (Hg.cap (by decide)) (Hh.cap (by decide)) Hg.pos Hh.pos) (addP_pos Hg.pos Hh.pos) (by decide)) ((cmpP_add xp yp zp).trans HN.out)) ?_));
         (rintro e WX ⟨rfl, hB1⟩);
         (have HS2 : StL w WX [(b3, ⟨#[]⟩, (cD (subP x y).2)), (w.heap.size + 1 + 1, hn, hd), (w.heap.size + 1, gn, gd), (w.heap.size, fn, fd)] := (by first | exact HS.out.next hB1 | exact HS.out.next1 hB1 | exact HS.out.nextD hB1));
         (replace HS := Lib.hid HS2);
         (clear hB1 HS2);
         (obtain ⟨fp0, fp1, fp2, fp3, _⟩ := HS.out.box);
         (obtain ⟨fx0, fy0, _, _⟩ := fp0.cells);
         (obtain ⟨fx1, fy1, _, _⟩ := fp1.cells);
         (obtain ⟨fx2, fy2, _, _⟩ := fp2.cells);
         (obtain ⟨fx3, fy3, _, _⟩ := fp3.cells))
    | (go_at_call 11;
         (first
           | (with_reducible refine Calls.mono (fAdd_v (z := addP x z) _ (by first | exact HS.out.g | exact HS.out.drew.g | exact (HS.out.drewN _).g) (Hf.arg (by decide)) (Hh.arg (by decide)) (rfl)) ?_)
           | (with_reducible refine Calls.mono (fAdd_v (z := addP y z) _ (by first | exact HS.out.g | exact HS.out.drew.g | exact (HS.out.drewN _).g) (Hg.arg (by decide)) (Hh.arg (by decide)) (rfl)) ?_));
         (rintro e WX ⟨rfl, hB1⟩);
         (have HS2 : StL w WX [(b3, ⟨#[]⟩, (cD (subP x y).2)), (w.heap.size + 1 + 1, hn, hd), (w.heap.size + 1, gn, gd), (w.heap.size, fn, fd)] := (by first | exact HS.out.next hB1 | exact HS.out.next1 hB1 | exact HS.out.nextD hB1));
         (replace HS := Lib.hid HS2);
         (clear hB1 HS2);
         (obtain ⟨fp0, fp1, fp2, fp3, _⟩ := HS.out.box);
         (obtain ⟨fx0, fy0, _, _⟩ := fp0.cells);
         (obtain ⟨fx1, fy1, _, _⟩ := fp1.cells);
         (obtain ⟨fx2, fy2, _, _⟩ := fp2.cells);
         (obtain ⟨fx3, fy3, _, _⟩ := fp3.cells)))
    all_goals go_wp2_with fail
    all_goals go_meet
    all_goals exact ⟨rfl, (by first | exact HS.out | exact HS.out.drew | exact HS.out.drewN _)⟩
  clear HS
  clear fp0 fx0 fy0 fp1 fx1 fy1 fp2 fx2 fy2 fp3 fx3 fy3
  obtain ⟨rfl, hS⟩ := hcut
  obtain ⟨w4, hw⟩ : ∃ W, W = wc := ⟨_, rfl⟩
  rw [← hw] at hS
  rw [← hw]
  clear hw
  try go_upto_region 11 with fail
  obtain ⟨fp0, fp1, fp2, fp3, _⟩ := hS.box
  obtain ⟨fx0, fy0, _, _⟩ := fp0.cells
  obtain ⟨fx1, fy1, _, _⟩ := fp1.cells
  obtain ⟨fx2, fy2, _, _⟩ := fp2.cells
  obtain ⟨fx3, fy3, _, _⟩ := fp3.cells
  go_wp2_with fail
  clear fp0 fx0 fy0 fp1 fx1 fy1 fp2 fx2 fy2 fp3 fx3 fy3
  refine Calls.mono (fCompare_v (c := p) _ hS.g (Hh.arg (by decide)) Val.zero (HP.out)) ?_
  rintro _ w5 ⟨rfl, hB⟩
  replace hS := hS.next hB
  clear hB
  by_cases hpp : 0 < p
  · obtain ⟨fp0, fp1, fp2, fp3, _⟩ := hS.box
    obtain ⟨fx0, fy0, _, _⟩ := fp0.cells
    obtain ⟨fx1, fy1, _, _⟩ := fp1.cells
    obtain ⟨fx2, fy2, _, _⟩ := fp2.cells
    obtain ⟨fx3, fy3, _, _⟩ := fp3.cells
    go_upto_region 12 with fail
    clear fp0 fx0 fy0 fp1 fx1 fy1 fp2 fx2 fy2 fp3 fx3 fy3
    obtain ⟨fp0, fp1, fp2, fp3, _⟩ := hS.box
    obtain ⟨fx0, fy0, _, _⟩ := fp0.cells
    obtain ⟨fx1, fy1, _, _⟩ := fp1.cells
    obtain ⟨fx2, fy2, _, _⟩ := fp2.cells
    obtain ⟨fx3, fy3, _, _⟩ := fp3.cells
    try go_upto_region 12 with fail
    have HS := Lib.hid hS
    clear hS
    go_cut [10] (fun s10 wx => s10 = .bool true ∧ StL w wx [(b3, ⟨#[]⟩, (cD (subP x y).2)), (w.heap.size + 1 + 1, hn, hd), (w.heap.size + 1, gn, gd), (w.heap.size, fn, fd)])
    case first =>
      go_region_held3 (fun w' => w'.cell? ⟨b3, 0, none⟩ = some (.string ⟨#[]⟩) ∧ w'.cell? ⟨b3, 1, none⟩ = some (.string (cD (subP x y).2)) ∧ w'.cell? ⟨w.heap.size + 1 + 1, 0, none⟩ = some (.string hn) ∧ w'.cell? ⟨w.heap.size + 1 + 1, 1, none⟩ = some (.string hd) ∧ w'.cell? ⟨w.heap.size + 1, 0, none⟩ = some (.string gn) ∧ w'.cell? ⟨w.heap.size + 1, 1, none⟩ = some (.string gd) ∧ w'.cell? ⟨w.heap.size, 0, none⟩ = some (.string fn) ∧ w'.cell? ⟨w.heap.size, 1, none⟩ = some (.string fd))
        (go_keep)
        (first
      | (go_at_call 12;
           (first
             | (with_reducible refine Calls.mono (fMul_v (z := mulP x z) _ (by first | exact HS.out.g | exact HS.out.drew.g | exact (HS.out.drewN _).g) (Hf.arg (by decide)) (Hh.arg (by decide)) (rfl)) ?_)
             | (with_reducible refine Calls.mono (fMul_v (z := mulP y z) _ (by first | exact HS.out.g | exact HS.out.drew.g | exact (HS.out.drewN _).g) (Hg.arg (by decide)) (Hh.arg (by decide)) (rfl)) ?_));
           (rintro e WX ⟨rfl, hB1⟩);
           (have HS2 : StL w WX [(b3, ⟨#[]⟩, (cD (subP x y).2)), (w.heap.size + 1 + 1, hn, hd), (w.heap.size + 1, gn, gd), (w.heap.size, fn, fd)] := (by first | exact HS.out.next hB1 | exact HS.out.next1 hB1 | exact HS.out.nextD hB1));
           (replace HS := Lib.hid HS2);
           (clear hB1 HS2);
           (obtain ⟨fp0, fp1, fp2, fp3, _⟩ := HS.out.box);
           (obtain ⟨fx0, fy0, _, _⟩ := fp0.cells);
           (obtain ⟨fx1, fy1, _, _⟩ := fp1.cells);
           (obtain ⟨fx2, fy2, _, _⟩ := fp2.cells);
           (obtain ⟨fx3, fy3, _, _⟩ := fp3.cells))
      | (go_at_call 16;
           (first
             | (with_reducible refine Calls.mono (fCompare_v (c := 0) _ (by first | exact HS.out.g | exact HS.out.drew.g | exact (HS.out.drewN _).g) (Val.of (k := 120) (CapP.mul (Hf.cap (by decide)) (Hh.cap (by decide)) Hf.pos Hh.pos) (mulP_pos Hf.pos Hh.pos) (by decide)) (Val.of (k := 120) (CapP.mul (Hg.cap (by decide)) (Hh.cap (by decide)) Hg.pos Hh.pos) (mulP_pos Hg.pos Hh.pos) (by decide)) ((cmpP_mul xp yp zp (HZ0.out hpp)).trans HN.out)) ?_));
           (rintro e WX ⟨rfl, hB1⟩);
           (have HS2 : StL w WX [(b3, ⟨#[]⟩, (cD (subP x y).2)), (w.heap.size + 1 + 1, hn, hd), (w.heap.size + 1, gn, gd), (w.heap.size, fn, fd)] := (by first | exact HS.out.next hB1 | exact HS.out.next1 hB1 | exact HS.out.nextD hB1));
           (replace HS := Lib.hid HS2);
           (clear hB1 HS2);
           (obtain ⟨fp0, fp1, fp2, fp3, _⟩ := HS.out.box);
           (obtain ⟨fx0, fy0, _, _⟩ := fp0.cells);
           (obtain ⟨fx1, fy1, _, _⟩ := fp1.cells);
           (obtain ⟨fx2, fy2, _, _⟩ := fp2.cells);
           (obtain ⟨fx3, fy3, _, _⟩ := fp3.cells)))
      all_goals go_wp2_with fail
      all_goals go_meet
      all_goals exact ⟨rfl, (by first | exact HS.out | exact HS.out.drew | exact HS.out.drewN _)⟩
    clear HS
    clear fp0 fx0 fy0 fp1 fx1 fy1 fp2 fx2 fy2 fp3 fx3 fy3
    obtain ⟨rfl, hS⟩ := hcut
    obtain ⟨w6, hw⟩ : ∃ W, W = wc := ⟨_, rfl⟩
    rw [← hw] at hS
    rw [← hw]
    clear hw
    obtain ⟨fp0, fp1, fp2, fp3, _⟩ := hS.box
    obtain ⟨fx0, fy0, _, _⟩ := fp0.cells
    obtain ⟨fx1, fy1, _, _⟩ := fp1.cells
    obtain ⟨fx2, fy2, _, _⟩ := fp2.cells
    obtain ⟨fx3, fy3, _, _⟩ := fp3.cells
    go_upto_region 13 with fail
    clear fp0 fx0 fy0 fp1 fx1 fy1 fp2 fx2 fy2 fp3 fx3 fy3
    obtain ⟨fp0, fp1, fp2, fp3, _⟩ := hS.box
    obtain ⟨fx0, fy0, _, _⟩ := fp0.cells
    obtain ⟨fx1, fy1, _, _⟩ := fp1.cells
    obtain ⟨fx2, fy2, _, _⟩ := fp2.cells
    obtain ⟨fx3, fy3, _, _⟩ := fp3.cells
    go_wp2_with fail
    clear fp0 fx0 fy0 fp1 fx1 fy1 fp2 fx2 fy2 fp3 fx3 fy3
    refine Calls.mono (fCompare_v (c := m) _ hS.g (Hg.arg (by decide)) (Hh.arg (by decide)) (HM.out)) ?_
    rintro _ w7 ⟨rfl, hB⟩
    replace hS := hS.next hB
    clear hB
    have hmc : m = -1 ∨ m = 0 ∨ m = 1 := by have := HMR.out; omega
    rcases hmc with rfl | rfl | rfl
    · have HTR := Lib.hid (show cmpP x z = -1 by rw [cmpP_trans xp yp zp (by rw [HN.out]; decide) (by rw [HM.out]; decide), HN.out, HM.out]; decide)
      have hmn : min (0 : Int) (-1) = -1 := by decide
      obtain ⟨fp0, fp1, fp2, fp3, _⟩ := hS.box
      obtain ⟨fx0, fy0, _, _⟩ := fp0.cells
      obtain ⟨fx1, fy1, _, _⟩ := fp1.cells
      obtain ⟨fx2, fy2, _, _⟩ := fp2.cells
      obtain ⟨fx3, fy3, _, _⟩ := fp3.cells
      go_wp2_with fail
      clear fp0 fx0 fy0 fp1 fx1 fy1 fp2 fx2 fy2 fp3 fx3 fy3
      refine Calls.mono (fCompare_v (c := -1) _ hS.g (Hf.arg (by decide)) (Hh.arg (by decide)) (HTR.out)) ?_
      rintro _ w8 ⟨rfl, hB⟩
      replace hS := hS.next hB
      clear hB
      obtain ⟨fp0, fp1, fp2, fp3, _⟩ := hS.box
      obtain ⟨fx0, fy0, _, _⟩ := fp0.cells
      obtain ⟨fx1, fy1, _, _⟩ := fp1.cells
      obtain ⟨fx2, fy2, _, _⟩ := fp2.cells
      obtain ⟨fx3, fy3, _, _⟩ := fp3.cells
      go_wp2_with fail
      clear fp0 fx0 fy0 fp1 fx1 fy1 fp2 fx2 fy2 fp3 fx3 fy3
      refine Calls.mono (fawake_any _ hS.g) ?_
      rintro _ w9 ⟨rfl, hB⟩
      replace hS := hS.next hB
      clear hB
      obtain ⟨fp0, fp1, fp2, fp3, _⟩ := hS.box
      obtain ⟨fx0, fy0, _, _⟩ := fp0.cells
      obtain ⟨fx1, fy1, _, _⟩ := fp1.cells
      obtain ⟨fx2, fy2, _, _⟩ := fp2.cells
      obtain ⟨fx3, fy3, _, _⟩ := fp3.cells
      go_wp2_with fail
      go_ret
      exact ⟨rfl, hS.below⟩
    · have HTR := Lib.hid (show cmpP x z = 0 by rw [cmpP_trans xp yp zp (by rw [HN.out]; decide) (by rw [HM.out]; decide), HN.out, HM.out]; decide)
      have hmn : min (0 : Int) (0) = 0 := by decide
      obtain ⟨fp0, fp1, fp2, fp3, _⟩ := hS.box
      obtain ⟨fx0, fy0, _, _⟩ := fp0.cells
      obtain ⟨fx1, fy1, _, _⟩ := fp1.cells
      obtain ⟨fx2, fy2, _, _⟩ := fp2.cells
      obtain ⟨fx3, fy3, _, _⟩ := fp3.cells
      go_wp2_with fail
      clear fp0 fx0 fy0 fp1 fx1 fy1 fp2 fx2 fy2 fp3 fx3 fy3
      refine Calls.mono (fCompare_v (c := 0) _ hS.g (Hf.arg (by decide)) (Hh.arg (by decide)) (HTR.out)) ?_
      rintro _ w8 ⟨rfl, hB⟩
      replace hS := hS.next hB
      clear hB
      obtain ⟨fp0, fp1, fp2, fp3, _⟩ := hS.box
      obtain ⟨fx0, fy0, _, _⟩ := fp0.cells
      obtain ⟨fx1, fy1, _, _⟩ := fp1.cells
      obtain ⟨fx2, fy2, _, _⟩ := fp2.cells
      obtain ⟨fx3, fy3, _, _⟩ := fp3.cells
      go_wp2_with fail
      clear fp0 fx0 fy0 fp1 fx1 fy1 fp2 fx2 fy2 fp3 fx3 fy3
      refine Calls.mono (fawake_any _ hS.g) ?_
      rintro _ w9 ⟨rfl, hB⟩
      replace hS := hS.next hB
      clear hB
      obtain ⟨fp0, fp1, fp2, fp3, _⟩ := hS.box
      obtain ⟨fx0, fy0, _, _⟩ := fp0.cells
      obtain ⟨fx1, fy1, _, _⟩ := fp1.cells
      obtain ⟨fx2, fy2, _, _⟩ := fp2.cells
      obtain ⟨fx3, fy3, _, _⟩ := fp3.cells
      go_wp2_with fail
      go_ret
      exact ⟨rfl, hS.below⟩
    · obtain ⟨fp0, fp1, fp2, fp3, _⟩ := hS.box
      obtain ⟨fx0, fy0, _, _⟩ := fp0.cells
      obtain ⟨fx1, fy1, _, _⟩ := fp1.cells
      obtain ⟨fx2, fy2, _, _⟩ := fp2.cells
      obtain ⟨fx3, fy3, _, _⟩ := fp3.cells
      go_wp2_with fail
      clear fp0 fx0 fy0 fp1 fx1 fy1 fp2 fx2 fy2 fp3 fx3 fy3
      refine Calls.mono (fawake_any _ hS.g) ?_
      rintro _ w8 ⟨rfl, hB⟩
      replace hS := hS.next hB
      clear hB
      obtain ⟨fp0, fp1, fp2, fp3, _⟩ := hS.box
      obtain ⟨fx0, fy0, _, _⟩ := fp0.cells
      obtain ⟨fx1, fy1, _, _⟩ := fp1.cells
      obtain ⟨fx2, fy2, _, _⟩ := fp2.cells
      obtain ⟨fx3, fy3, _, _⟩ := fp3.cells
      go_wp2_with fail
      go_ret
      exact ⟨rfl, hS.below⟩
  · obtain ⟨fp0, fp1, fp2, fp3, _⟩ := hS.box
    obtain ⟨fx0, fy0, _, _⟩ := fp0.cells
    obtain ⟨fx1, fy1, _, _⟩ := fp1.cells
    obtain ⟨fx2, fy2, _, _⟩ := fp2.cells
    obtain ⟨fx3, fy3, _, _⟩ := fp3.cells
    go_upto_region 13 with fail
    clear fp0 fx0 fy0 fp1 fx1 fy1 fp2 fx2 fy2 fp3 fx3 fy3
    obtain ⟨fp0, fp1, fp2, fp3, _⟩ := hS.box
    obtain ⟨fx0, fy0, _, _⟩ := fp0.cells
    obtain ⟨fx1, fy1, _, _⟩ := fp1.cells
    obtain ⟨fx2, fy2, _, _⟩ := fp2.cells
    obtain ⟨fx3, fy3, _, _⟩ := fp3.cells
    go_wp2_with fail
    clear fp0 fx0 fy0 fp1 fx1 fy1 fp2 fx2 fy2 fp3 fx3 fy3
    refine Calls.mono (fCompare_v (c := m) _ hS.g (Hg.arg (by decide)) (Hh.arg (by decide)) (HM.out)) ?_
    rintro _ w6 ⟨rfl, hB⟩
    replace hS := hS.next hB
    clear hB
    have hmc : m = -1 ∨ m = 0 ∨ m = 1 := by have := HMR.out; omega
    rcases hmc with rfl | rfl | rfl
    · have HTR := Lib.hid (show cmpP x z = -1 by rw [cmpP_trans xp yp zp (by rw [HN.out]; decide) (by rw [HM.out]; decide), HN.out, HM.out]; decide)
      have hmn : min (0 : Int) (-1) = -1 := by decide
      obtain ⟨fp0, fp1, fp2, fp3, _⟩ := hS.box
      obtain ⟨fx0, fy0, _, _⟩ := fp0.cells
      obtain ⟨fx1, fy1, _, _⟩ := fp1.cells
      obtain ⟨fx2, fy2, _, _⟩ := fp2.cells
      obtain ⟨fx3, fy3, _, _⟩ := fp3.cells
      go_wp2_with fail
      clear fp0 fx0 fy0 fp1 fx1 fy1 fp2 fx2 fy2 fp3 fx3 fy3
      refine Calls.mono (fCompare_v (c := -1) _ hS.g (Hf.arg (by decide)) (Hh.arg (by decide)) (HTR.out)) ?_
      rintro _ w7 ⟨rfl, hB⟩
      replace hS := hS.next hB
      clear hB
      obtain ⟨fp0, fp1, fp2, fp3, _⟩ := hS.box
      obtain ⟨fx0, fy0, _, _⟩ := fp0.cells
      obtain ⟨fx1, fy1, _, _⟩ := fp1.cells
      obtain ⟨fx2, fy2, _, _⟩ := fp2.cells
      obtain ⟨fx3, fy3, _, _⟩ := fp3.cells
      go_wp2_with fail
      clear fp0 fx0 fy0 fp1 fx1 fy1 fp2 fx2 fy2 fp3 fx3 fy3
      refine Calls.mono (fawake_any _ hS.g) ?_
      rintro _ w8 ⟨rfl, hB⟩
      replace hS := hS.next hB
      clear hB
      obtain ⟨fp0, fp1, fp2, fp3, _⟩ := hS.box
      obtain ⟨fx0, fy0, _, _⟩ := fp0.cells
      obtain ⟨fx1, fy1, _, _⟩ := fp1.cells
      obtain ⟨fx2, fy2, _, _⟩ := fp2.cells
      obtain ⟨fx3, fy3, _, _⟩ := fp3.cells
      go_wp2_with fail
      go_ret
      exact ⟨rfl, hS.below⟩
    · have HTR := Lib.hid (show cmpP x z = 0 by rw [cmpP_trans xp yp zp (by rw [HN.out]; decide) (by rw [HM.out]; decide), HN.out, HM.out]; decide)
      have hmn : min (0 : Int) (0) = 0 := by decide
      obtain ⟨fp0, fp1, fp2, fp3, _⟩ := hS.box
      obtain ⟨fx0, fy0, _, _⟩ := fp0.cells
      obtain ⟨fx1, fy1, _, _⟩ := fp1.cells
      obtain ⟨fx2, fy2, _, _⟩ := fp2.cells
      obtain ⟨fx3, fy3, _, _⟩ := fp3.cells
      go_wp2_with fail
      clear fp0 fx0 fy0 fp1 fx1 fy1 fp2 fx2 fy2 fp3 fx3 fy3
      refine Calls.mono (fCompare_v (c := 0) _ hS.g (Hf.arg (by decide)) (Hh.arg (by decide)) (HTR.out)) ?_
      rintro _ w7 ⟨rfl, hB⟩
      replace hS := hS.next hB
      clear hB
      obtain ⟨fp0, fp1, fp2, fp3, _⟩ := hS.box
      obtain ⟨fx0, fy0, _, _⟩ := fp0.cells
      obtain ⟨fx1, fy1, _, _⟩ := fp1.cells
      obtain ⟨fx2, fy2, _, _⟩ := fp2.cells
      obtain ⟨fx3, fy3, _, _⟩ := fp3.cells
      go_wp2_with fail
      clear fp0 fx0 fy0 fp1 fx1 fy1 fp2 fx2 fy2 fp3 fx3 fy3
      refine Calls.mono (fawake_any _ hS.g) ?_
      rintro _ w8 ⟨rfl, hB⟩
      replace hS := hS.next hB
      clear hB
      obtain ⟨fp0, fp1, fp2, fp3, _⟩ := hS.box
      obtain ⟨fx0, fy0, _, _⟩ := fp0.cells
      obtain ⟨fx1, fy1, _, _⟩ := fp1.cells
      obtain ⟨fx2, fy2, _, _⟩ := fp2.cells
      obtain ⟨fx3, fy3, _, _⟩ := fp3.cells
      go_wp2_with fail
      go_ret
      exact ⟨rfl, hS.below⟩
    · obtain ⟨fp0, fp1, fp2, fp3, _⟩ := hS.box
      obtain ⟨fx0, fy0, _, _⟩ := fp0.cells
      obtain ⟨fx1, fy1, _, _⟩ := fp1.cells
      obtain ⟨fx2, fy2, _, _⟩ := fp2.cells
      obtain ⟨fx3, fy3, _, _⟩ := fp3.cells
      go_wp2_with fail
      clear fp0 fx0 fy0 fp1 fx1 fy1 fp2 fx2 fy2 fp3 fx3 fy3
      refine Calls.mono (fawake_any _ hS.g) ?_
      rintro _ w7 ⟨rfl, hB⟩
      replace hS := hS.next hB
      clear hB
      obtain ⟨fp0, fp1, fp2, fp3, _⟩ := hS.box
      obtain ⟨fx0, fy0, _, _⟩ := fp0.cells
      obtain ⟨fx1, fy1, _, _⟩ := fp1.cells
      obtain ⟨fx2, fy2, _, _⟩ := fp2.cells
      obtain ⟨fx3, fy3, _, _⟩ := fp3.cells
      go_wp2_with fail
      go_ret
      exact ⟨rfl, hS.below⟩

set_option maxRecDepth 100000 in
set_option maxHeartbeats 16000000 in
theorem forder_p (fn fd gn gd hn hd : ByteArray) (w : World) (hG : Ground w) (hf1 : fn.size ≤ 60) (hf2 : fd.size ≤ 60) (hg1 : gn.size ≤ 60) (hg2 : gd.size ≤ 60) (hh1 : hn.size ≤ 60) (hh2 : hd.size ≤ 60) (hs : cmpP (raw fn fd) (raw gn gd) = 1) :
    Calls Tryd.prog 4 #[.agg #[.string fn, .string fd], .agg #[.string gn, .string gd], .agg #[.string hn, .string hd]] w fun e w' => e = .returned (.bool true) ∧ Below w.heap.size w w' := by
  have hl : flong 60 [(fn, fd), (gn, gd), (hn, hd)] = false := flong_false (by simp; omega)
  have HL := Lib.hid hl
  obtain ⟨x, hx⟩ : ∃ x, raw fn fd = x := ⟨_, rfl⟩
  have Hf : Giv 60 fn fd x := ⟨hx, hf1, hf2⟩
  obtain ⟨y, hy⟩ : ∃ x, raw gn gd = x := ⟨_, rfl⟩
  have Hg : Giv 60 gn gd y := ⟨hy, hg1, hg2⟩
  obtain ⟨z, hz⟩ : ∃ x, raw hn hd = x := ⟨_, rfl⟩
  have Hh : Giv 60 hn hd z := ⟨hz, hh1, hh2⟩
  have xp := Hf.pos
  have yp := Hg.pos
  have zp := Hh.pos
  rw [hx, hy] at hs
  have hsg : cmp3 (subP x y).1 0 = 1 := by rw [subP_eq xp yp, ← cmpP_sign xp yp]; exact hs
  obtain ⟨D, hD⟩ : ∃ D, cS (subP x y).1 = D := ⟨_, rfl⟩
  have hDs : D.size ≤ 122 := by rw [← hD]; have := cS_size (CapP.sub (Hf.cap (by decide)) (Hg.cap (by decide)) xp yp).1; omega
  obtain ⟨hD0, hD1⟩ := cS_plus_first ((cmp3_pos _ _).1 (by rw [hsg]; decide)) hD
  have HD := Lib.hid hD
  have HN := Lib.hid hs
  have HSW := Lib.hid (show cmpP y x = -1 by rw [cmpP_swap, hs] <;> rfl)
  have hwr : IntKind.i64.wrap (1) = 1 := by decide
  obtain ⟨p, hp⟩ : ∃ p, cmpP z (0, 1) = p := ⟨_, rfl⟩
  obtain ⟨m, hm⟩ : ∃ m, cmpP y z = m := ⟨_, rfl⟩
  have HP := Lib.hid hp
  have HM := Lib.hid hm
  have hmr := cmp3_range (y.1 * z.2) (z.1 * y.2)
  rw [show cmp3 (y.1 * z.2) (z.1 * y.2) = m from hm] at hmr
  have hz0 : 0 < p → 0 < z.1 := by
    rw [← hp]; unfold cmpP; rw [cmp3_pos]; intro h'; have h2 : 0 * z.2 < z.1 * 1 := h'; omega
  have HZ0 := Lib.hid hz0
  clear hl hx hy hz hs hsg hD hp hm hz0
  obtain ⟨W0, hW0⟩ : ∃ W0, W0 = ((w.alloc (.cells #[.string fn, .string fd] 24)).alloc (.cells #[.string gn, .string gd] 24)).alloc (.cells #[.string hn, .string hd] 24) := ⟨_, rfl⟩
  have hS : StL w W0 [(w.heap.size + 1 + 1, hn, hd), (w.heap.size + 1, gn, gd), (w.heap.size, fn, fd)] := by rw [hW0]; exact StL.three hG _ _ _ _ _ _
  go_enter Tryd.func4, Tryd.ntmps4
  go_upto_region 1 with fail
  rw [← hW0]
  clear hW0
  obtain ⟨fp0, fp1, fp2, _⟩ := hS.box
  obtain ⟨fx0, fy0, _, _⟩ := fp0.cells
  obtain ⟨fx1, fy1, _, _⟩ := fp1.cells
  obtain ⟨fx2, fy2, _, _⟩ := fp2.cells
  go_wp2_with fail
  obtain ⟨W1, hW1⟩ : ∃ W1, W1 = W0.alloc (.cells #[.string fn, .string fd, .string gn, .string gd, .string hn, .string hd] 24) := ⟨_, rfl⟩
  have hc0 : ∀ i, i < 3 → W1.cell? ⟨W0.heap.size, i * 2, none⟩ = some (.string ([(fn, fd), (gn, gd), (hn, hd)].getD i (⟨#[]⟩, ⟨#[]⟩)).1) ∧ W1.cell? ⟨W0.heap.size, i * 2 + 1, none⟩ = some (.string ([(fn, fd), (gn, gd), (hn, hd)].getD i (⟨#[]⟩, ⟨#[]⟩)).2) := by rw [hW1]; exact fgreat_cells W0 [(fn, fd), (gn, gd), (hn, hd)]
  have hS1 : StL w W1 [(w.heap.size + 1 + 1, hn, hd), (w.heap.size + 1, gn, gd), (w.heap.size, fn, fd)] := by rw [hW1]; exact hS.other _
  rw [← hW1]
  clear fp0 fx0 fy0 fp1 fx1 fy1 fp2 fx2 fy2
  clear hW1 hS
  have hS := hS1
  clear hS1
  refine (rGreat_any W1 W0.heap.size 3 [(fn, fd), (gn, gd), (hn, hd)] rfl (by decide) hc0).mono ?_
  rintro _ _ ⟨rfl, rfl⟩
  clear hc0
  rw [HL.out]
  obtain ⟨fp0, fp1, fp2, _⟩ := hS.box
  obtain ⟨fx0, fy0, _, _⟩ := fp0.cells
  obtain ⟨fx1, fy1, _, _⟩ := fp1.cells
  obtain ⟨fx2, fy2, _, _⟩ := fp2.cells
  go_wp2_with fail
  clear fp0 fx0 fy0 fp1 fx1 fy1 fp2 fx2 fy2
  refine Calls.mono (fCompare_v (c := 1) _ hS.g (Hf.arg (by decide)) (Hg.arg (by decide)) (HN.out)) ?_
  rintro _ w1 ⟨rfl, hB⟩
  replace hS := hS.next hB
  clear hB
  obtain ⟨fp0, fp1, fp2, _⟩ := hS.box
  obtain ⟨fx0, fy0, _, _⟩ := fp0.cells
  obtain ⟨fx1, fy1, _, _⟩ := fp1.cells
  obtain ⟨fx2, fy2, _, _⟩ := fp2.cells
  go_wp2_with fail
  clear fp0 fx0 fy0 fp1 fx1 fy1 fp2 fx2 fy2
  refine Calls.mono (fSub_v (z := subP x y) _ hS.g (Hf.arg (by decide)) (Hg.arg (by decide)) (rfl)) ?_
  rintro _ w2 ⟨rfl, hB⟩
  replace hS := hS.next hB
  clear hB
  rw [HD.out]
  go_upto_region 5 with fail
  obtain ⟨b3, hb3⟩ : ∃ b, b = w2.heap.size := ⟨_, rfl⟩
  obtain ⟨V3, hV3⟩ : ∃ V, V = w2.alloc (.cells #[.string D, .string (cD (subP x y).2)] 24) := ⟨_, rfl⟩
  have hT : StL w V3 [(b3, D, (cD (subP x y).2)), (w.heap.size + 1 + 1, hn, hd), (w.heap.size + 1, gn, gd), (w.heap.size, fn, fd)] := by rw [hV3, hb3]; exact hS.alloc _ _
  rw [← hb3, ← hV3]
  clear hV3 hb3 hS
  have hS := hT
  clear hT
  have hD2 : (0 : Int) < D.size := by omega
  obtain ⟨fp0, fp1, fp2, fp3, _⟩ := hS.box
  obtain ⟨fx0, fy0, _, _⟩ := fp0.cells
  obtain ⟨fx1, fy1, _, _⟩ := fp1.cells
  obtain ⟨fx2, fy2, _, _⟩ := fp2.cells
  obtain ⟨fx3, fy3, _, _⟩ := fp3.cells
  go_upto_region 10 with fail
  clear fp0 fx0 fy0 fp1 fx1 fy1 fp2 fx2 fy2 fp3 fx3 fy3
  clear hD1 hD2
  try clear hD0
  clear hDs
  have HMR := Lib.hid hmr
  clear hmr
  obtain ⟨fp0, fp1, fp2, fp3, _⟩ := hS.box
  obtain ⟨fx0, fy0, _, _⟩ := fp0.cells
  obtain ⟨fx1, fy1, _, _⟩ := fp1.cells
  obtain ⟨fx2, fy2, _, _⟩ := fp2.cells
  obtain ⟨fx3, fy3, _, _⟩ := fp3.cells
  try go_upto_region 10 with fail
  have HS := Lib.hid hS
  clear hS
  go_cut [10] (fun s10 wx => s10 = .bool true ∧ StL w wx [(b3, D, (cD (subP x y).2)), (w.heap.size + 1 + 1, hn, hd), (w.heap.size + 1, gn, gd), (w.heap.size, fn, fd)])
  case first =>
    go_region_held3 (fun w' => w'.cell? ⟨b3, 0, none⟩ = some (.string D) ∧ w'.cell? ⟨b3, 1, none⟩ = some (.string (cD (subP x y).2)) ∧ w'.cell? ⟨w.heap.size + 1 + 1, 0, none⟩ = some (.string hn) ∧ w'.cell? ⟨w.heap.size + 1 + 1, 1, none⟩ = some (.string hd) ∧ w'.cell? ⟨w.heap.size + 1, 0, none⟩ = some (.string gn) ∧ w'.cell? ⟨w.heap.size + 1, 1, none⟩ = some (.string gd) ∧ w'.cell? ⟨w.heap.size, 0, none⟩ = some (.string fn) ∧ w'.cell? ⟨w.heap.size, 1, none⟩ = some (.string fd))
      (go_keep)
      (first
    | (go_at_call 16;
         (first
           | (with_reducible refine Calls.mono (fCompare_v (c := -1) _ (by first | exact HS.out.g | exact HS.out.drew.g | exact (HS.out.drewN _).g) (Hg.arg (by decide)) (Hf.arg (by decide)) (HSW.out)) ?_)
           | (with_reducible refine Calls.mono (fCompare_v (c := 1) _ (by first | exact HS.out.g | exact HS.out.drew.g | exact (HS.out.drewN _).g) (Val.of (k := 121) (CapP.add (Hf.cap (by decide)) (Hh.cap (by decide)) Hf.pos Hh.pos) (addP_pos Hf.pos Hh.pos) (by decide)) (Val.of (k := 121) (CapP.add (Hg.cap (by decide)) (Hh.cap (by decide)) Hg.pos Hh.pos) (addP_pos Hg.pos Hh.pos) (by decide)) ((cmpP_add xp yp zp).trans HN.out)) ?_));
         (rintro e WX ⟨rfl, hB1⟩);
         (have HS2 : StL w WX [(b3, D, (cD (subP x y).2)), (w.heap.size + 1 + 1, hn, hd), (w.heap.size + 1, gn, gd), (w.heap.size, fn, fd)] := (by first | exact HS.out.next hB1 | exact HS.out.next1 hB1 | exact HS.out.nextD hB1));
         (replace HS := Lib.hid HS2);
         (clear hB1 HS2);
         (obtain ⟨fp0, fp1, fp2, fp3, _⟩ := HS.out.box);
         (obtain ⟨fx0, fy0, _, _⟩ := fp0.cells);
         (obtain ⟨fx1, fy1, _, _⟩ := fp1.cells);
         (obtain ⟨fx2, fy2, _, _⟩ := fp2.cells);
         (obtain ⟨fx3, fy3, _, _⟩ := fp3.cells))
    | (go_at_call 11;
         (first
           | (with_reducible refine Calls.mono (fAdd_v (z := addP x z) _ (by first | exact HS.out.g | exact HS.out.drew.g | exact (HS.out.drewN _).g) (Hf.arg (by decide)) (Hh.arg (by decide)) (rfl)) ?_)
           | (with_reducible refine Calls.mono (fAdd_v (z := addP y z) _ (by first | exact HS.out.g | exact HS.out.drew.g | exact (HS.out.drewN _).g) (Hg.arg (by decide)) (Hh.arg (by decide)) (rfl)) ?_));
         (rintro e WX ⟨rfl, hB1⟩);
         (have HS2 : StL w WX [(b3, D, (cD (subP x y).2)), (w.heap.size + 1 + 1, hn, hd), (w.heap.size + 1, gn, gd), (w.heap.size, fn, fd)] := (by first | exact HS.out.next hB1 | exact HS.out.next1 hB1 | exact HS.out.nextD hB1));
         (replace HS := Lib.hid HS2);
         (clear hB1 HS2);
         (obtain ⟨fp0, fp1, fp2, fp3, _⟩ := HS.out.box);
         (obtain ⟨fx0, fy0, _, _⟩ := fp0.cells);
         (obtain ⟨fx1, fy1, _, _⟩ := fp1.cells);
         (obtain ⟨fx2, fy2, _, _⟩ := fp2.cells);
         (obtain ⟨fx3, fy3, _, _⟩ := fp3.cells)))
    all_goals go_wp2_with fail
    all_goals go_meet
    all_goals exact ⟨rfl, (by first | exact HS.out | exact HS.out.drew | exact HS.out.drewN _)⟩
  clear HS
  clear fp0 fx0 fy0 fp1 fx1 fy1 fp2 fx2 fy2 fp3 fx3 fy3
  obtain ⟨rfl, hS⟩ := hcut
  obtain ⟨w4, hw⟩ : ∃ W, W = wc := ⟨_, rfl⟩
  rw [← hw] at hS
  rw [← hw]
  clear hw
  try go_upto_region 11 with fail
  obtain ⟨fp0, fp1, fp2, fp3, _⟩ := hS.box
  obtain ⟨fx0, fy0, _, _⟩ := fp0.cells
  obtain ⟨fx1, fy1, _, _⟩ := fp1.cells
  obtain ⟨fx2, fy2, _, _⟩ := fp2.cells
  obtain ⟨fx3, fy3, _, _⟩ := fp3.cells
  go_wp2_with fail
  clear fp0 fx0 fy0 fp1 fx1 fy1 fp2 fx2 fy2 fp3 fx3 fy3
  refine Calls.mono (fCompare_v (c := p) _ hS.g (Hh.arg (by decide)) Val.zero (HP.out)) ?_
  rintro _ w5 ⟨rfl, hB⟩
  replace hS := hS.next hB
  clear hB
  by_cases hpp : 0 < p
  · obtain ⟨fp0, fp1, fp2, fp3, _⟩ := hS.box
    obtain ⟨fx0, fy0, _, _⟩ := fp0.cells
    obtain ⟨fx1, fy1, _, _⟩ := fp1.cells
    obtain ⟨fx2, fy2, _, _⟩ := fp2.cells
    obtain ⟨fx3, fy3, _, _⟩ := fp3.cells
    go_upto_region 12 with fail
    clear fp0 fx0 fy0 fp1 fx1 fy1 fp2 fx2 fy2 fp3 fx3 fy3
    obtain ⟨fp0, fp1, fp2, fp3, _⟩ := hS.box
    obtain ⟨fx0, fy0, _, _⟩ := fp0.cells
    obtain ⟨fx1, fy1, _, _⟩ := fp1.cells
    obtain ⟨fx2, fy2, _, _⟩ := fp2.cells
    obtain ⟨fx3, fy3, _, _⟩ := fp3.cells
    try go_upto_region 12 with fail
    have HS := Lib.hid hS
    clear hS
    go_cut [10] (fun s10 wx => s10 = .bool true ∧ StL w wx [(b3, D, (cD (subP x y).2)), (w.heap.size + 1 + 1, hn, hd), (w.heap.size + 1, gn, gd), (w.heap.size, fn, fd)])
    case first =>
      go_region_held3 (fun w' => w'.cell? ⟨b3, 0, none⟩ = some (.string D) ∧ w'.cell? ⟨b3, 1, none⟩ = some (.string (cD (subP x y).2)) ∧ w'.cell? ⟨w.heap.size + 1 + 1, 0, none⟩ = some (.string hn) ∧ w'.cell? ⟨w.heap.size + 1 + 1, 1, none⟩ = some (.string hd) ∧ w'.cell? ⟨w.heap.size + 1, 0, none⟩ = some (.string gn) ∧ w'.cell? ⟨w.heap.size + 1, 1, none⟩ = some (.string gd) ∧ w'.cell? ⟨w.heap.size, 0, none⟩ = some (.string fn) ∧ w'.cell? ⟨w.heap.size, 1, none⟩ = some (.string fd))
        (go_keep)
        (first
      | (go_at_call 12;
           (first
             | (with_reducible refine Calls.mono (fMul_v (z := mulP x z) _ (by first | exact HS.out.g | exact HS.out.drew.g | exact (HS.out.drewN _).g) (Hf.arg (by decide)) (Hh.arg (by decide)) (rfl)) ?_)
             | (with_reducible refine Calls.mono (fMul_v (z := mulP y z) _ (by first | exact HS.out.g | exact HS.out.drew.g | exact (HS.out.drewN _).g) (Hg.arg (by decide)) (Hh.arg (by decide)) (rfl)) ?_));
           (rintro e WX ⟨rfl, hB1⟩);
           (have HS2 : StL w WX [(b3, D, (cD (subP x y).2)), (w.heap.size + 1 + 1, hn, hd), (w.heap.size + 1, gn, gd), (w.heap.size, fn, fd)] := (by first | exact HS.out.next hB1 | exact HS.out.next1 hB1 | exact HS.out.nextD hB1));
           (replace HS := Lib.hid HS2);
           (clear hB1 HS2);
           (obtain ⟨fp0, fp1, fp2, fp3, _⟩ := HS.out.box);
           (obtain ⟨fx0, fy0, _, _⟩ := fp0.cells);
           (obtain ⟨fx1, fy1, _, _⟩ := fp1.cells);
           (obtain ⟨fx2, fy2, _, _⟩ := fp2.cells);
           (obtain ⟨fx3, fy3, _, _⟩ := fp3.cells))
      | (go_at_call 16;
           (first
             | (with_reducible refine Calls.mono (fCompare_v (c := 1) _ (by first | exact HS.out.g | exact HS.out.drew.g | exact (HS.out.drewN _).g) (Val.of (k := 120) (CapP.mul (Hf.cap (by decide)) (Hh.cap (by decide)) Hf.pos Hh.pos) (mulP_pos Hf.pos Hh.pos) (by decide)) (Val.of (k := 120) (CapP.mul (Hg.cap (by decide)) (Hh.cap (by decide)) Hg.pos Hh.pos) (mulP_pos Hg.pos Hh.pos) (by decide)) ((cmpP_mul xp yp zp (HZ0.out hpp)).trans HN.out)) ?_));
           (rintro e WX ⟨rfl, hB1⟩);
           (have HS2 : StL w WX [(b3, D, (cD (subP x y).2)), (w.heap.size + 1 + 1, hn, hd), (w.heap.size + 1, gn, gd), (w.heap.size, fn, fd)] := (by first | exact HS.out.next hB1 | exact HS.out.next1 hB1 | exact HS.out.nextD hB1));
           (replace HS := Lib.hid HS2);
           (clear hB1 HS2);
           (obtain ⟨fp0, fp1, fp2, fp3, _⟩ := HS.out.box);
           (obtain ⟨fx0, fy0, _, _⟩ := fp0.cells);
           (obtain ⟨fx1, fy1, _, _⟩ := fp1.cells);
           (obtain ⟨fx2, fy2, _, _⟩ := fp2.cells);
           (obtain ⟨fx3, fy3, _, _⟩ := fp3.cells)))
      all_goals go_wp2_with fail
      all_goals go_meet
      all_goals exact ⟨rfl, (by first | exact HS.out | exact HS.out.drew | exact HS.out.drewN _)⟩
    clear HS
    clear fp0 fx0 fy0 fp1 fx1 fy1 fp2 fx2 fy2 fp3 fx3 fy3
    obtain ⟨rfl, hS⟩ := hcut
    obtain ⟨w6, hw⟩ : ∃ W, W = wc := ⟨_, rfl⟩
    rw [← hw] at hS
    rw [← hw]
    clear hw
    obtain ⟨fp0, fp1, fp2, fp3, _⟩ := hS.box
    obtain ⟨fx0, fy0, _, _⟩ := fp0.cells
    obtain ⟨fx1, fy1, _, _⟩ := fp1.cells
    obtain ⟨fx2, fy2, _, _⟩ := fp2.cells
    obtain ⟨fx3, fy3, _, _⟩ := fp3.cells
    go_upto_region 13 with fail
    clear fp0 fx0 fy0 fp1 fx1 fy1 fp2 fx2 fy2 fp3 fx3 fy3
    obtain ⟨fp0, fp1, fp2, fp3, _⟩ := hS.box
    obtain ⟨fx0, fy0, _, _⟩ := fp0.cells
    obtain ⟨fx1, fy1, _, _⟩ := fp1.cells
    obtain ⟨fx2, fy2, _, _⟩ := fp2.cells
    obtain ⟨fx3, fy3, _, _⟩ := fp3.cells
    go_wp2_with fail
    clear fp0 fx0 fy0 fp1 fx1 fy1 fp2 fx2 fy2 fp3 fx3 fy3
    refine Calls.mono (fCompare_v (c := m) _ hS.g (Hg.arg (by decide)) (Hh.arg (by decide)) (HM.out)) ?_
    rintro _ w7 ⟨rfl, hB⟩
    replace hS := hS.next hB
    clear hB
    clear HM HMR
    obtain ⟨fp0, fp1, fp2, fp3, _⟩ := hS.box
    obtain ⟨fx0, fy0, _, _⟩ := fp0.cells
    obtain ⟨fx1, fy1, _, _⟩ := fp1.cells
    obtain ⟨fx2, fy2, _, _⟩ := fp2.cells
    obtain ⟨fx3, fy3, _, _⟩ := fp3.cells
    go_wp2_with fail
    clear fp0 fx0 fy0 fp1 fx1 fy1 fp2 fx2 fy2 fp3 fx3 fy3
    refine Calls.mono (fawake_any _ hS.g) ?_
    rintro _ w8 ⟨rfl, hB⟩
    replace hS := hS.next hB
    clear hB
    obtain ⟨fp0, fp1, fp2, fp3, _⟩ := hS.box
    obtain ⟨fx0, fy0, _, _⟩ := fp0.cells
    obtain ⟨fx1, fy1, _, _⟩ := fp1.cells
    obtain ⟨fx2, fy2, _, _⟩ := fp2.cells
    obtain ⟨fx3, fy3, _, _⟩ := fp3.cells
    go_wp2_with fail
    go_ret
    exact ⟨rfl, hS.below⟩
  · obtain ⟨fp0, fp1, fp2, fp3, _⟩ := hS.box
    obtain ⟨fx0, fy0, _, _⟩ := fp0.cells
    obtain ⟨fx1, fy1, _, _⟩ := fp1.cells
    obtain ⟨fx2, fy2, _, _⟩ := fp2.cells
    obtain ⟨fx3, fy3, _, _⟩ := fp3.cells
    go_upto_region 13 with fail
    clear fp0 fx0 fy0 fp1 fx1 fy1 fp2 fx2 fy2 fp3 fx3 fy3
    obtain ⟨fp0, fp1, fp2, fp3, _⟩ := hS.box
    obtain ⟨fx0, fy0, _, _⟩ := fp0.cells
    obtain ⟨fx1, fy1, _, _⟩ := fp1.cells
    obtain ⟨fx2, fy2, _, _⟩ := fp2.cells
    obtain ⟨fx3, fy3, _, _⟩ := fp3.cells
    go_wp2_with fail
    clear fp0 fx0 fy0 fp1 fx1 fy1 fp2 fx2 fy2 fp3 fx3 fy3
    refine Calls.mono (fCompare_v (c := m) _ hS.g (Hg.arg (by decide)) (Hh.arg (by decide)) (HM.out)) ?_
    rintro _ w6 ⟨rfl, hB⟩
    replace hS := hS.next hB
    clear hB
    clear HM HMR
    obtain ⟨fp0, fp1, fp2, fp3, _⟩ := hS.box
    obtain ⟨fx0, fy0, _, _⟩ := fp0.cells
    obtain ⟨fx1, fy1, _, _⟩ := fp1.cells
    obtain ⟨fx2, fy2, _, _⟩ := fp2.cells
    obtain ⟨fx3, fy3, _, _⟩ := fp3.cells
    go_wp2_with fail
    clear fp0 fx0 fy0 fp1 fx1 fy1 fp2 fx2 fy2 fp3 fx3 fy3
    refine Calls.mono (fawake_any _ hS.g) ?_
    rintro _ w7 ⟨rfl, hB⟩
    replace hS := hS.next hB
    clear hB
    obtain ⟨fp0, fp1, fp2, fp3, _⟩ := hS.box
    obtain ⟨fx0, fy0, _, _⟩ := fp0.cells
    obtain ⟨fx1, fy1, _, _⟩ := fp1.cells
    obtain ⟨fx2, fy2, _, _⟩ := fp2.cells
    obtain ⟨fx3, fy3, _, _⟩ := fp3.cells
    go_wp2_with fail
    go_ret
    exact ⟨rfl, hS.below⟩

set_option maxRecDepth 100000 in
set_option maxHeartbeats 16000000 in
theorem forder_long (fn fd gn gd hn hd : ByteArray) (w : World) (hG : Ground w) (hl : flong 60 [(fn, fd), (gn, gd), (hn, hd)] = true) :
    Calls Tryd.prog 4 #[.agg #[.string fn, .string fd], .agg #[.string gn, .string gd], .agg #[.string hn, .string hd]] w fun e w' => e = .returned (.bool true) ∧ Below w.heap.size w w' := by
  have HL := Lib.hid hl
  clear hl
  obtain ⟨W0, hW0⟩ : ∃ W0, W0 = ((w.alloc (.cells #[.string fn, .string fd] 24)).alloc (.cells #[.string gn, .string gd] 24)).alloc (.cells #[.string hn, .string hd] 24) := ⟨_, rfl⟩
  have hS : StL w W0 [(w.heap.size + 1 + 1, hn, hd), (w.heap.size + 1, gn, gd), (w.heap.size, fn, fd)] := by rw [hW0]; exact StL.three hG _ _ _ _ _ _
  go_enter Tryd.func4, Tryd.ntmps4
  go_upto_region 1 with fail
  rw [← hW0]
  clear hW0
  obtain ⟨fp0, fp1, fp2, _⟩ := hS.box
  obtain ⟨fx0, fy0, _, _⟩ := fp0.cells
  obtain ⟨fx1, fy1, _, _⟩ := fp1.cells
  obtain ⟨fx2, fy2, _, _⟩ := fp2.cells
  go_wp2_with fail
  obtain ⟨W1, hW1⟩ : ∃ W1, W1 = W0.alloc (.cells #[.string fn, .string fd, .string gn, .string gd, .string hn, .string hd] 24) := ⟨_, rfl⟩
  have hc0 : ∀ i, i < 3 → W1.cell? ⟨W0.heap.size, i * 2, none⟩ = some (.string ([(fn, fd), (gn, gd), (hn, hd)].getD i (⟨#[]⟩, ⟨#[]⟩)).1) ∧ W1.cell? ⟨W0.heap.size, i * 2 + 1, none⟩ = some (.string ([(fn, fd), (gn, gd), (hn, hd)].getD i (⟨#[]⟩, ⟨#[]⟩)).2) := by rw [hW1]; exact fgreat_cells W0 [(fn, fd), (gn, gd), (hn, hd)]
  have hS1 : StL w W1 [(w.heap.size + 1 + 1, hn, hd), (w.heap.size + 1, gn, gd), (w.heap.size, fn, fd)] := by rw [hW1]; exact hS.other _
  rw [← hW1]
  clear fp0 fx0 fy0 fp1 fx1 fy1 fp2 fx2 fy2
  clear hW1 hS
  have hS := hS1
  clear hS1
  refine (rGreat_any W1 W0.heap.size 3 [(fn, fd), (gn, gd), (hn, hd)] rfl (by decide) hc0).mono ?_
  rintro _ _ ⟨rfl, rfl⟩
  clear hc0
  rw [HL.out]
  obtain ⟨fp0, fp1, fp2, _⟩ := hS.box
  obtain ⟨fx0, fy0, _, _⟩ := fp0.cells
  obtain ⟨fx1, fy1, _, _⟩ := fp1.cells
  obtain ⟨fx2, fy2, _, _⟩ := fp2.cells
  go_wp2_with fail
  clear fp0 fx0 fy0 fp1 fx1 fy1 fp2 fx2 fy2
  refine Calls.mono (fawake_any _ hS.g) ?_
  rintro _ w1 ⟨rfl, hB⟩
  replace hS := hS.next hB
  clear hB
  obtain ⟨fp0, fp1, fp2, _⟩ := hS.box
  obtain ⟨fx0, fy0, _, _⟩ := fp0.cells
  obtain ⟨fx1, fy1, _, _⟩ := fp1.cells
  obtain ⟨fx2, fy2, _, _⟩ := fp2.cells
  go_wp2_with fail
  go_ret
  exact ⟨rfl, hS.below⟩

theorem forder_any (fn fd gn gd hn hd : ByteArray) (w : World) (hG : Ground w) :
    Calls Tryd.prog 4 #[.agg #[.string fn, .string fd], .agg #[.string gn, .string gd], .agg #[.string hn, .string hd]] w fun e w' => e = .returned (.bool true) ∧ Below w.heap.size w w' := by
  by_cases hf : fn.size ≤ 60 ∧ fd.size ≤ 60
  · by_cases hg : gn.size ≤ 60 ∧ gd.size ≤ 60
    · by_cases hh : hn.size ≤ 60 ∧ hd.size ≤ 60
      · have hr := cmp3_range ((raw fn fd).1 * (raw gn gd).2) ((raw gn gd).1 * (raw fn fd).2)
        have hs : cmpP (raw fn fd) (raw gn gd) = -1 ∨ cmpP (raw fn fd) (raw gn gd) = 0 ∨ cmpP (raw fn fd) (raw gn gd) = 1 := by unfold cmpP; omega
        rcases hs with hs | hs | hs
        · exact forder_m fn fd gn gd hn hd w hG hf.1 hf.2 hg.1 hg.2 hh.1 hh.2 hs
        · exact forder_z fn fd gn gd hn hd w hG hf.1 hf.2 hg.1 hg.2 hh.1 hh.2 hs
        · exact forder_p fn fd gn gd hn hd w hG hf.1 hf.2 hg.1 hg.2 hh.1 hh.2 hs
      · exact forder_long fn fd gn gd hn hd w hG (flong_true (f := (hn, hd)) (by simp) (by show 60 < hn.size ∨ 60 < hd.size; omega))
    · exact forder_long fn fd gn gd hn hd w hG (flong_true (f := (gn, gd)) (by simp) (by show 60 < gn.size ∨ 60 < gd.size; omega))
  · exact forder_long fn fd gn gd hn hd w hG (flong_true (f := (fn, fd)) (by simp) (by show 60 < fn.size ∨ 60 < fd.size; omega))

end Go.Proofs.YtldohkfomdcpoaaDoor
