/- the law DecimalDistance: the walk. -/
import Derived.Test.YtlonbfddhfacmaaGreatDoorDG
import Derived.Deep.RegionHeld3
import Derived.Deep.DeepCutAuto
import Derived.Laws.NewBlocks
import Derived.Deep.RegionWith
namespace Go.Proofs.YtlonbfddhfacmaaGreatDoor
open Go.RowKit Fra

set_option maxRecDepth 100000 in
set_option maxHeartbeats 16000000 in
theorem ddi_p (fn fd : ByteArray) (m : Int) (w : World) (hG : Ground w) (hn : fn.size ≤ 60) (hd : fd.size ≤ 60) (hl : longF fn fd = false) (h1 : 1 ≤ m) (h6 : m ≤ 6) (hs : ¬ cmpP (subP (raw fn fd) (rnd m (raw fn fd), 1)) (0, 1) < 0) :
    Calls Tryz.prog 6 #[.agg #[.string fn, .string fd], .int .i64 m] w fun e w' => e = .returned (.bool true) ∧ Below w.heap.size w w' := by
  have HL := Lib.hid hl
  have HAW := Lib.hid dawake_any
  clear hl
  obtain ⟨x, hx⟩ : ∃ x, raw fn fd = x := ⟨_, rfl⟩
  have Hf : Giv 60 fn fd x := ⟨hx, hn, hd⟩
  have hcx := Hf.cap (by decide)
  have hxp := Hf.pos
  obtain ⟨q, hq⟩ : ∃ q, rnd m x = q := ⟨_, rfl⟩
  have hcq : Cap 62 q := by rw [← hq]; exact rnd_cap hcx.1 hxp
  obtain ⟨D, hD⟩ : ∃ D, subP x (q, 1) = D := ⟨_, rfl⟩
  have hDp : 0 < D.2 := by rw [← hD]; exact subP_pos (y := (q, 1)) hxp Int.one_pos
  have hcD : CapP (60 + 62 + 1) D := by rw [← hD]; exact CapP.sub hcx (int_capP hcq (by decide)) hxp Int.one_pos
  obtain ⟨c0, hc0⟩ : ∃ c, cmpP D (0, 1) = c := ⟨_, rfl⟩
  have hnear := rnd_near m hxp
  rw [hq, hD, hc0] at hnear
  have hm1 : ¬ m < 1 := by omega
  have hm6 : ¬ 6 < m := by omega
  have HR := Lib.hid (show Ret 13 #[.agg #[.string fn, .string fd], .int .i64 m] (two (cS q) 0) from round_ok (Hf.arg (by decide)) (by omega) (by omega) hq)
  have HQV := Lib.hid (int_val hcq (by decide))
  have HR2 := Lib.hid (show Ret 13 #[.agg #[.string (cS q), .string ⟨#[]⟩], .int .i64 m] (two (cS q) 0) from round_ok HQV.out (by omega) (by omega) (rnd_whole m q))
  have HQS := Lib.hid (show (cS q).size ≤ 100000 by have := cS_size hcq; omega)
  have HD := Lib.hid hD
  have HDV := Lib.hid (show Val (cS D.1) (cD D.2) D from Val.of hcD hDp (by decide))
  have HC0 := Lib.hid hc0
  have HCK := Lib.hid (check_ret hcq (by decide))
  have HLS := Lib.hid (show (cS (low x).2).size ≤ 4294967295 by have := cS_size (CapP.low hcx hxp).2; omega)
  have H01 := Lib.hid (show Val ⟨#[]⟩ ⟨#[]⟩ (0, 1) from Val.zero)
  have H11 := Lib.hid (show Val ⟨#[49]⟩ ⟨#[]⟩ (1, 1) from ⟨by decide +kernel, by decide, by decide⟩)
  have H12 := Lib.hid (show Val ⟨#[49]⟩ ⟨#[50]⟩ (1, 2) from ⟨by decide +kernel, by decide, by decide⟩)
  have hneg : ¬ c0 < 0 := by have := hs; rwa [hx, hq, hD, hc0] at this
  rw [if_neg hneg] at hnear
  have HEV := HDV
  have HC1 := Lib.hid (show cmpP D (1, 1) = -1 by
    have h := hnear.1
    have h2 := cmp3_range (D.1 * 1) (1 * D.2)
    unfold cmpP at h ⊢
    simp only at *
    omega)
  obtain ⟨c2, hc2⟩ : ∃ c, cmpP D (1, 2) = c := ⟨_, rfl⟩
  have HD2 := Lib.hid (show m = 1 ∨ m = 2 → c2 ≤ 0 by rw [← hc2]; exact hnear.2)
  have HC2 := Lib.hid hc2
  have HMS := Lib.hid (show m = 1 ∨ m = 2 ∨ m = 3 ∨ m = 4 ∨ m = 5 ∨ m = 6 by omega)
  have HCF := Lib.hid (show (low x).2 = 1 → cmpP x (q, 1) = 0 by intro e; rw [← hq]; exact rnd_stays m hxp e)
  have HLP := Lib.hid (low_pos hxp)
  have HF := Lib.hid Hf
  clear hn hd h1 h6 hx hcx hxp hq hcq hD hDp hcD hc0 hnear hs hc2
  obtain ⟨W0, hW0⟩ : ∃ W0, W0 = w.alloc (.cells #[.string fn, .string fd] 24) := ⟨_, rfl⟩
  have hS : StL w W0 [(w.heap.size, fn, fd)] := by rw [hW0]; exact StL.one hG _ _
  go_enter Tryz.func6, Tryz.ntmps6
  go_upto_region 1 with fail
  rw [← hW0]
  clear hW0
  obtain ⟨fp0, _⟩ := hS.box
  obtain ⟨fx0, fy0, _, _⟩ := fp0.cells
  go_wp2_with fail
  clear fp0 fx0 fy0
  refine Calls.mono (rLongF fn fd _) ?_
  rintro _ w1 ⟨rfl, hB⟩
  replace hS := hS.next hB
  clear hB
  rw [HL.out]
  obtain ⟨fp0, _⟩ := hS.box
  obtain ⟨fx0, fy0, _, _⟩ := fp0.cells
  go_wp2_with fail
  clear fp0 fx0 fy0
  refine Calls.mono (Ret.call HR.out _ hS.g) ?_
  rintro _ w2 ⟨rfl, hB⟩
  replace hS := hS.next hB
  clear hB
  obtain ⟨fp0, _⟩ := hS.box
  obtain ⟨fx0, fy0, _, _⟩ := fp0.cells
  go_upto_region 6 with fail
  clear fp0 fx0 fy0
  obtain ⟨fp0, _⟩ := hS.box
  obtain ⟨fx0, fy0, _, _⟩ := fp0.cells
  try go_upto_region 6 with fail
  have HS := Lib.hid hS
  clear hS
  have hne0 : w2.heap.size ≠ w.heap.size := World.new_ne w2 _ fx0
  have hle0_0 : w.heap.size < w2.heap.size := fp0.lt
  go_cut [7] (fun s7 wx => ∃ b2_0 : Nat, s7 = .pointer (some ⟨b2_0, 0, none⟩) ∧ StL w wx [(b2_0, (cS D.1), (cD D.2)), (w.heap.size, fn, fd)])
  case first =>
    go_region_held3 (fun w' => w'.cell? ⟨w.heap.size, 0, none⟩ = some (.string fn) ∧ w'.cell? ⟨w.heap.size, 1, none⟩ = some (.string fd))
      (go_keep)
      (first
    | (go_at_call 31;
         (with_reducible refine Calls.mono (fOf_v (p := q) _ (by first | exact HS.out.g | exact HS.out.drew.g | exact (HS.out.drewN _).g | exact (HS.out.other _).g | exact (HS.out.drew.other _).g | exact (HS.out.other _).drew.g | exact ((HS.out.other _).other _).g | exact ((HS.out.drew.other _).other _).g | exact ((HS.out.other _).other _).drew.g | exact ((HS.out.drew.other _).drew.other _).g | exact ((HS.out.other _).drew.other _).g) HQS.out (vS_cS _)) ?_);
         (rintro e X2_1 ⟨rfl, hB1⟩);
         (first
           | ((have HS2 : StL w X2_1 ([(w.heap.size, fn, fd)]) := (by first | exact HS.out.next hB1 | exact HS.out.next1 hB1 | exact HS.out.nextD hB1 | exact (HS.out.alloc _ _).next hB1 | exact (HS.out.drew.alloc _ _).next hB1 | exact (HS.out.alloc _ _).drew.next hB1 | exact (HS.out.alloc2 _ _ _ _).next hB1 | exact (HS.out.drew.alloc2 _ _ _ _).next hB1 | exact (HS.out.alloc2 _ _ _ _).drew.next hB1)); (replace HS := Lib.hid HS2); (clear HS2); (obtain ⟨fp0, _⟩ := HS.out.box); (obtain ⟨fx0, fy0, _, _⟩ := fp0.cells); (have hle0_1 : w.heap.size < X2_1.heap.size := fp0.lt))
           | ((have HS2 : StL w X2_1 ((w2.heap.size, ⟨#[]⟩, ⟨#[]⟩) :: [(w.heap.size, fn, fd)]) := (by first | exact HS.out.next hB1 | exact HS.out.next1 hB1 | exact HS.out.nextD hB1 | exact (HS.out.alloc _ _).next hB1 | exact (HS.out.drew.alloc _ _).next hB1 | exact (HS.out.alloc _ _).drew.next hB1 | exact (HS.out.alloc2 _ _ _ _).next hB1 | exact (HS.out.drew.alloc2 _ _ _ _).next hB1 | exact (HS.out.alloc2 _ _ _ _).drew.next hB1)); (replace HS := Lib.hid HS2); (clear HS2); (obtain ⟨pn0, fp0, _⟩ := HS.out.box); (obtain ⟨nx0, ny0, nz0, nw0⟩ := pn0.cells); (have hnp0 : X2_1.heap.size ≠ w2.heap.size := World.new_ne _ _ nx0); (have hnq0 : w2.heap.size < X2_1.heap.size := pn0.lt); (obtain ⟨fx0, fy0, _, _⟩ := fp0.cells); (have hle0_1 : w.heap.size < X2_1.heap.size := fp0.lt); (have hnr0_0 : w2.heap.size ≠ w.heap.size := (by omega))));
         (clear hB1);
         (have hne0 : X2_1.heap.size ≠ w.heap.size := World.new_ne X2_1 _ fx0))
    | (go_at_call 30;
         (with_reducible refine Calls.mono (fSub_v (z := D) _ (by first | exact HS.out.g | exact HS.out.drew.g | exact (HS.out.drewN _).g | exact (HS.out.other _).g | exact (HS.out.drew.other _).g | exact (HS.out.other _).drew.g | exact ((HS.out.other _).other _).g | exact ((HS.out.drew.other _).other _).g | exact ((HS.out.other _).other _).drew.g | exact ((HS.out.drew.other _).drew.other _).g | exact ((HS.out.other _).drew.other _).g) (HF.out.arg (by decide)) HQV.out HD.out) ?_);
         (rintro e X2_2 ⟨rfl, hB1⟩);
         (first
           | ((have HS2 : StL w X2_2 ([(w.heap.size, fn, fd)]) := (by first | exact HS.out.next hB1 | exact HS.out.next1 hB1 | exact HS.out.nextD hB1 | exact (HS.out.alloc _ _).next hB1 | exact (HS.out.drew.alloc _ _).next hB1 | exact (HS.out.alloc _ _).drew.next hB1 | exact (HS.out.alloc2 _ _ _ _).next hB1 | exact (HS.out.drew.alloc2 _ _ _ _).next hB1 | exact (HS.out.alloc2 _ _ _ _).drew.next hB1)); (replace HS := Lib.hid HS2); (clear HS2); (obtain ⟨fp0, _⟩ := HS.out.box); (obtain ⟨fx0, fy0, _, _⟩ := fp0.cells); (have hle0_2 : w.heap.size < X2_2.heap.size := fp0.lt))
           | ((have HS2 : StL w X2_2 ((X2_1.heap.size, ⟨#[]⟩, ⟨#[]⟩) :: [(w.heap.size, fn, fd)]) := (by first | exact HS.out.next hB1 | exact HS.out.next1 hB1 | exact HS.out.nextD hB1 | exact (HS.out.alloc _ _).next hB1 | exact (HS.out.drew.alloc _ _).next hB1 | exact (HS.out.alloc _ _).drew.next hB1 | exact (HS.out.alloc2 _ _ _ _).next hB1 | exact (HS.out.drew.alloc2 _ _ _ _).next hB1 | exact (HS.out.alloc2 _ _ _ _).drew.next hB1)); (replace HS := Lib.hid HS2); (clear HS2); (obtain ⟨pn0, fp0, _⟩ := HS.out.box); (obtain ⟨nx0, ny0, nz0, nw0⟩ := pn0.cells); (have hnp0 : X2_2.heap.size ≠ X2_1.heap.size := World.new_ne _ _ nx0); (have hnq0 : X2_1.heap.size < X2_2.heap.size := pn0.lt); (obtain ⟨fx0, fy0, _, _⟩ := fp0.cells); (have hle0_2 : w.heap.size < X2_2.heap.size := fp0.lt); (have hnr0_0 : X2_1.heap.size ≠ w.heap.size := (by omega)))
           | ((have HS2 : StL w X2_2 ((w2.heap.size, ⟨#[]⟩, ⟨#[]⟩) :: [(w.heap.size, fn, fd)]) := (by first | exact HS.out.next hB1 | exact HS.out.next1 hB1 | exact HS.out.nextD hB1 | exact (HS.out.alloc _ _).next hB1 | exact (HS.out.drew.alloc _ _).next hB1 | exact (HS.out.alloc _ _).drew.next hB1 | exact (HS.out.alloc2 _ _ _ _).next hB1 | exact (HS.out.drew.alloc2 _ _ _ _).next hB1 | exact (HS.out.alloc2 _ _ _ _).drew.next hB1)); (replace HS := Lib.hid HS2); (clear HS2); (obtain ⟨pn0, fp0, _⟩ := HS.out.box); (obtain ⟨nx0, ny0, nz0, nw0⟩ := pn0.cells); (have hnp0 : X2_2.heap.size ≠ w2.heap.size := World.new_ne _ _ nx0); (have hnq0 : w2.heap.size < X2_2.heap.size := pn0.lt); (obtain ⟨fx0, fy0, _, _⟩ := fp0.cells); (have hle0_2 : w.heap.size < X2_2.heap.size := fp0.lt); (have hnr0_0 : w2.heap.size ≠ w.heap.size := (by omega))));
         (clear hB1);
         (have hne0 : X2_2.heap.size ≠ w.heap.size := World.new_ne X2_2 _ fx0)))
    all_goals go_wp2_with fail
    all_goals go_meet
    all_goals refine ⟨_, rfl, ?_⟩
    all_goals first
      | with_reducible exact HS.out.alloc _ _
      | with_reducible exact StL.fill hG HS.out _ _
      | with_reducible exact (HS.out.alloc _ _).drew
      | with_reducible exact HS.out.drew.alloc _ _
      | with_reducible exact StL.fill hG HS.out.drew _ _
      | with_reducible exact (HS.out.drew.alloc _ _).drew
  clear HS hne0 hle0_0
  clear fp0 fx0 fy0
  obtain ⟨b2_0, rfl, hS⟩ := hcut
  obtain ⟨w3, hw⟩ : ∃ W, W = wc := ⟨_, rfl⟩
  rw [← hw] at hS
  rw [← hw]
  clear hw
  obtain ⟨fp0, fp1, _⟩ := hS.box
  obtain ⟨fx0, fy0, _, _⟩ := fp0.cells
  obtain ⟨fx1, fy1, _, _⟩ := fp1.cells
  go_wp2_with fail
  clear fp0 fx0 fy0 fp1 fx1 fy1
  refine Calls.mono (ratio_1_1.call _ hS.g) ?_
  rintro _ w4 ⟨rfl, hB⟩
  replace hS := hS.next hB
  clear hB
  go_upto_region 8 with fail
  obtain ⟨b5, hb5⟩ : ∃ b, b = w4.heap.size := ⟨_, rfl⟩
  obtain ⟨V5, hV5⟩ : ∃ V, V = w4.alloc (.cells #[.string ⟨#[49]⟩, .string ⟨#[]⟩] 24) := ⟨_, rfl⟩
  have hT : StL w V5 [(b5, ⟨#[49]⟩, ⟨#[]⟩), (b2_0, (cS D.1), (cD D.2)), (w.heap.size, fn, fd)] := by rw [hV5, hb5]; exact hS.alloc _ _
  rw [← hb5, ← hV5]
  clear hV5 hb5 hS
  have hS := hT
  clear hT
  obtain ⟨fp0, fp1, fp2, _⟩ := hS.box
  obtain ⟨fx0, fy0, _, _⟩ := fp0.cells
  obtain ⟨fx1, fy1, _, _⟩ := fp1.cells
  obtain ⟨fx2, fy2, _, _⟩ := fp2.cells
  try go_upto_region 8 with fail
  have HS := Lib.hid hS
  clear hS
  go_cut [46] (fun s46 wx => s46 = .bool false ∧ StL w wx [(b5, ⟨#[49]⟩, ⟨#[]⟩), (b2_0, (cS D.1), (cD D.2)), (w.heap.size, fn, fd)])
  case first =>
    go_region_held3 (fun w' => w'.cell? ⟨b5, 0, none⟩ = some (.string ⟨#[49]⟩) ∧ w'.cell? ⟨b5, 1, none⟩ = some (.string ⟨#[]⟩) ∧ w'.cell? ⟨b2_0, 0, none⟩ = some (.string (cS D.1)) ∧ w'.cell? ⟨b2_0, 1, none⟩ = some (.string (cD D.2)) ∧ w'.cell? ⟨w.heap.size, 0, none⟩ = some (.string fn) ∧ w'.cell? ⟨w.heap.size, 1, none⟩ = some (.string fd))
      (go_keep)
      (first
    | (go_at_call 32;
         (first
           | (with_reducible refine Calls.mono (ratio_0_1.call _ (by first | exact HS.out.g | exact HS.out.drew.g | exact (HS.out.drewN _).g)) ?_));
         (rintro e WX ⟨rfl, hB1⟩);
         (have HS2 : StL w WX [(b5, ⟨#[49]⟩, ⟨#[]⟩), (b2_0, (cS D.1), (cD D.2)), (w.heap.size, fn, fd)] := (by first | exact HS.out.next hB1 | exact HS.out.next1 hB1 | exact HS.out.nextD hB1));
         (replace HS := Lib.hid HS2);
         (clear hB1 HS2);
         (obtain ⟨fp0, fp1, fp2, _⟩ := HS.out.box);
         (obtain ⟨fx0, fy0, _, _⟩ := fp0.cells);
         (obtain ⟨fx1, fy1, _, _⟩ := fp1.cells);
         (obtain ⟨fx2, fy2, _, _⟩ := fp2.cells))
    | (go_at_call 29;
         (first
           | (with_reducible refine Calls.mono (fCompare_v (c := c0) _ (by first | exact HS.out.g | exact HS.out.drew.g | exact (HS.out.drewN _).g) HDV.out H01.out HC0.out) ?_));
         (rintro e WX ⟨rfl, hB1⟩);
         (have HS2 : StL w WX [(b5, ⟨#[49]⟩, ⟨#[]⟩), (b2_0, (cS D.1), (cD D.2)), (w.heap.size, fn, fd)] := (by first | exact HS.out.next hB1 | exact HS.out.next1 hB1 | exact HS.out.nextD hB1));
         (replace HS := Lib.hid HS2);
         (clear hB1 HS2);
         (obtain ⟨fp0, fp1, fp2, _⟩ := HS.out.box);
         (obtain ⟨fx0, fy0, _, _⟩ := fp0.cells);
         (obtain ⟨fx1, fy1, _, _⟩ := fp1.cells);
         (obtain ⟨fx2, fy2, _, _⟩ := fp2.cells)))
    all_goals go_wp2_with fail
    all_goals go_meet
    all_goals exact ⟨congrArg Value.bool (by first | rfl | exact decide_eq_false (by omega)), (by first | exact HS.out | exact HS.out.drew | exact HS.out.drewN _)⟩
  clear HS
  clear fp0 fx0 fy0 fp1 fx1 fy1 fp2 fx2 fy2
  obtain ⟨rfl, hS⟩ := hcut
  obtain ⟨w6, hw⟩ : ∃ W, W = wc := ⟨_, rfl⟩
  rw [← hw] at hS
  rw [← hw]
  clear hw
  obtain ⟨fp0, fp1, fp2, _⟩ := hS.box
  obtain ⟨fx0, fy0, _, _⟩ := fp0.cells
  obtain ⟨fx1, fy1, _, _⟩ := fp1.cells
  obtain ⟨fx2, fy2, _, _⟩ := fp2.cells
  go_wp2_with fail
  clear fp0 fx0 fy0 fp1 fx1 fy1 fp2 fx2 fy2
  refine Calls.mono (fOf_v (p := q) _ hS.g HQS.out (vS_cS _)) ?_
  rintro _ w7 ⟨rfl, hB⟩
  replace hS := hS.next hB
  clear hB
  obtain ⟨fp0, fp1, fp2, _⟩ := hS.box
  obtain ⟨fx0, fy0, _, _⟩ := fp0.cells
  obtain ⟨fx1, fy1, _, _⟩ := fp1.cells
  obtain ⟨fx2, fy2, _, _⟩ := fp2.cells
  go_wp2_with fail
  clear fp0 fx0 fy0 fp1 fx1 fy1 fp2 fx2 fy2
  refine Calls.mono (Ret.call HR2.out _ hS.g) ?_
  rintro _ w8 ⟨rfl, hB⟩
  replace hS := hS.next hB
  clear hB
  obtain ⟨fp0, fp1, fp2, _⟩ := hS.box
  obtain ⟨fx0, fy0, _, _⟩ := fp0.cells
  obtain ⟨fx1, fy1, _, _⟩ := fp1.cells
  obtain ⟨fx2, fy2, _, _⟩ := fp2.cells
  go_upto_region 11 with fail
  clear fp0 fx0 fy0 fp1 fx1 fy1 fp2 fx2 fy2
  obtain ⟨fp0, fp1, fp2, _⟩ := hS.box
  obtain ⟨fx0, fy0, _, _⟩ := fp0.cells
  obtain ⟨fx1, fy1, _, _⟩ := fp1.cells
  obtain ⟨fx2, fy2, _, _⟩ := fp2.cells
  try go_upto_region 11 with fail
  have HS := Lib.hid hS
  clear hS
  go_cut [11] (fun s11 wx => s11 = .bool true ∧ StL w wx [(b5, ⟨#[49]⟩, ⟨#[]⟩), (b2_0, (cS D.1), (cD D.2)), (w.heap.size, fn, fd)])
  case first =>
    rcases HMS.out with rfl | rfl | rfl | rfl | rfl | rfl
    · go_region_held3 (fun w' => w'.cell? ⟨b5, 0, none⟩ = some (.string ⟨#[49]⟩) ∧ w'.cell? ⟨b5, 1, none⟩ = some (.string ⟨#[]⟩) ∧ w'.cell? ⟨b2_0, 0, none⟩ = some (.string (cS D.1)) ∧ w'.cell? ⟨b2_0, 1, none⟩ = some (.string (cD D.2)) ∧ w'.cell? ⟨w.heap.size, 0, none⟩ = some (.string fn) ∧ w'.cell? ⟨w.heap.size, 1, none⟩ = some (.string fd))
        (go_keep)
        (first
        | (go_at_call 29;
             (first
               | (with_reducible refine Calls.mono (fCompare_v (c := -1) _ (by first | exact HS.out.g | exact HS.out.drew.g | exact (HS.out.drewN _).g) HEV.out H11.out HC1.out) ?_)
               | (with_reducible refine Calls.mono (fCompare_v (c := c2) _ (by first | exact HS.out.g | exact HS.out.drew.g | exact (HS.out.drewN _).g) HEV.out H12.out HC2.out) ?_));
             (rintro e WX ⟨rfl, hB1⟩);
             (have HS2 : StL w WX [(b5, ⟨#[49]⟩, ⟨#[]⟩), (b2_0, (cS D.1), (cD D.2)), (w.heap.size, fn, fd)] := (by first | exact HS.out.next hB1 | exact HS.out.next1 hB1 | exact HS.out.nextD hB1));
             (replace HS := Lib.hid HS2);
             (clear hB1 HS2);
             (obtain ⟨fp0, fp1, fp2, _⟩ := HS.out.box);
             (obtain ⟨fx0, fy0, _, _⟩ := fp0.cells);
             (obtain ⟨fx1, fy1, _, _⟩ := fp1.cells);
             (obtain ⟨fx2, fy2, _, _⟩ := fp2.cells))
        | (go_at_call 32;
             (first
               | (with_reducible refine Calls.mono (ratio_1_2.call _ (by first | exact HS.out.g | exact HS.out.drew.g | exact (HS.out.drewN _).g)) ?_));
             (rintro e WX ⟨rfl, hB1⟩);
             (have HS2 : StL w WX [(b5, ⟨#[49]⟩, ⟨#[]⟩), (b2_0, (cS D.1), (cD D.2)), (w.heap.size, fn, fd)] := (by first | exact HS.out.next hB1 | exact HS.out.next1 hB1 | exact HS.out.nextD hB1));
             (replace HS := Lib.hid HS2);
             (clear hB1 HS2);
             (obtain ⟨fp0, fp1, fp2, _⟩ := HS.out.box);
             (obtain ⟨fx0, fy0, _, _⟩ := fp0.cells);
             (obtain ⟨fx1, fy1, _, _⟩ := fp1.cells);
             (obtain ⟨fx2, fy2, _, _⟩ := fp2.cells)))
      all_goals go_wp2_with fail
      all_goals go_meet
      all_goals exact ⟨congrArg Value.bool (decide_eq_true (HD2.out (by decide))), (by first | exact HS.out | exact HS.out.drew | exact HS.out.drewN _)⟩
    · go_region_held3 (fun w' => w'.cell? ⟨b5, 0, none⟩ = some (.string ⟨#[49]⟩) ∧ w'.cell? ⟨b5, 1, none⟩ = some (.string ⟨#[]⟩) ∧ w'.cell? ⟨b2_0, 0, none⟩ = some (.string (cS D.1)) ∧ w'.cell? ⟨b2_0, 1, none⟩ = some (.string (cD D.2)) ∧ w'.cell? ⟨w.heap.size, 0, none⟩ = some (.string fn) ∧ w'.cell? ⟨w.heap.size, 1, none⟩ = some (.string fd))
        (go_keep)
        (first
        | (go_at_call 29;
             (first
               | (with_reducible refine Calls.mono (fCompare_v (c := -1) _ (by first | exact HS.out.g | exact HS.out.drew.g | exact (HS.out.drewN _).g) HEV.out H11.out HC1.out) ?_)
               | (with_reducible refine Calls.mono (fCompare_v (c := c2) _ (by first | exact HS.out.g | exact HS.out.drew.g | exact (HS.out.drewN _).g) HEV.out H12.out HC2.out) ?_));
             (rintro e WX ⟨rfl, hB1⟩);
             (have HS2 : StL w WX [(b5, ⟨#[49]⟩, ⟨#[]⟩), (b2_0, (cS D.1), (cD D.2)), (w.heap.size, fn, fd)] := (by first | exact HS.out.next hB1 | exact HS.out.next1 hB1 | exact HS.out.nextD hB1));
             (replace HS := Lib.hid HS2);
             (clear hB1 HS2);
             (obtain ⟨fp0, fp1, fp2, _⟩ := HS.out.box);
             (obtain ⟨fx0, fy0, _, _⟩ := fp0.cells);
             (obtain ⟨fx1, fy1, _, _⟩ := fp1.cells);
             (obtain ⟨fx2, fy2, _, _⟩ := fp2.cells))
        | (go_at_call 32;
             (first
               | (with_reducible refine Calls.mono (ratio_1_2.call _ (by first | exact HS.out.g | exact HS.out.drew.g | exact (HS.out.drewN _).g)) ?_));
             (rintro e WX ⟨rfl, hB1⟩);
             (have HS2 : StL w WX [(b5, ⟨#[49]⟩, ⟨#[]⟩), (b2_0, (cS D.1), (cD D.2)), (w.heap.size, fn, fd)] := (by first | exact HS.out.next hB1 | exact HS.out.next1 hB1 | exact HS.out.nextD hB1));
             (replace HS := Lib.hid HS2);
             (clear hB1 HS2);
             (obtain ⟨fp0, fp1, fp2, _⟩ := HS.out.box);
             (obtain ⟨fx0, fy0, _, _⟩ := fp0.cells);
             (obtain ⟨fx1, fy1, _, _⟩ := fp1.cells);
             (obtain ⟨fx2, fy2, _, _⟩ := fp2.cells)))
      all_goals go_wp2_with fail
      all_goals go_meet
      all_goals exact ⟨congrArg Value.bool (decide_eq_true (HD2.out (by decide))), (by first | exact HS.out | exact HS.out.drew | exact HS.out.drewN _)⟩
    · refine wp_region_held_drew (S := fun w' => w'.cell? ⟨b5, 0, none⟩ = some (.string ⟨#[49]⟩) ∧ w'.cell? ⟨b5, 1, none⟩ = some (.string ⟨#[]⟩) ∧ w'.cell? ⟨b2_0, 0, none⟩ = some (.string (cS D.1)) ∧ w'.cell? ⟨b2_0, 1, none⟩ = some (.string (cD D.2)) ∧ w'.cell? ⟨w.heap.size, 0, none⟩ = some (.string fn) ∧ w'.cell? ⟨w.heap.size, 1, none⟩ = some (.string fd)) (by kernel_rfl) (by (try dsimp only); go_keep) (fun hHeld => ?_)
      refine wpAnyH_take (i := 0) (oi := { dst := some 56, op := Op.load 24 (Operand.tmp 7), type := 24, pos := "law.go:109", after := #[], guard := none }) (v := ?_) rfl (by kernel_rfl) (by kernel_rfl) (by kernel_rfl) (fun _ _ _ h => h) (Or.inl ⟨by rfl, ?_⟩) (by assumption) ?_
      rotate_left
      focus ((intro w hSw; (try dsimp only at hSw); go_simp); (try with_reducible rfl))
      try simp only [Act.put, List.setIfInBounds_toArray, List.set_cons_zero, List.set_cons_succ]
      refine wpAnyH_take (i := 1) (oi := { dst := some 57, op := Op.load 24 (Operand.tmp 8), type := 24, pos := "law.go:109", after := #[], guard := none }) (v := ?_) rfl (by kernel_rfl) (by kernel_rfl) (by kernel_rfl) (fun _ _ _ h => h) (Or.inl ⟨by rfl, ?_⟩) (by assumption) ?_
      rotate_left
      focus ((intro w hSw; (try dsimp only at hSw); go_simp); (try with_reducible rfl))
      try simp only [Act.put, List.setIfInBounds_toArray, List.set_cons_zero, List.set_cons_succ]
      refine wpAnyH_ready (rs := [2]) (by kernel_rfl) (by simp) ?_
      refine AllReadyH.cons (o := { dst := some 58, op := Op.call { callee := Callee.value (Operand.func 29), args := #[Operand.tmp 56, Operand.tmp 57], argTypes := #[24, 24] }, type := 3, pos := "law.go:109", after := #[{ on := 0, ground := Ground.data }, { on := 1, ground := Ground.data }], guard := none }) rfl (fun K hK => ?_) AllReadyH.nil
      clear hHeld
      go_simp
      with_reducible refine Calls.mono (fCompare_v (c := -1) _ (by first | exact HS.out.g | exact HS.out.drew.g | exact (HS.out.drewN _).g) HEV.out H11.out HC1.out) ?_
      rintro e WX ⟨rfl, hB1⟩
      (have HS2 : StL w WX [(b5, ⟨#[49]⟩, ⟨#[]⟩), (b2_0, (cS D.1), (cD D.2)), (w.heap.size, fn, fd)] := (by first | exact HS.out.next hB1 | exact HS.out.next1 hB1 | exact HS.out.nextD hB1))
      (replace HS := Lib.hid HS2)
      (clear hB1 HS2)
      (obtain ⟨fp0, fp1, fp2, _⟩ := HS.out.box)
      (obtain ⟨fx0, fy0, _, _⟩ := fp0.cells)
      (obtain ⟨fx1, fy1, _, _⟩ := fp1.cells)
      (obtain ⟨fx2, fy2, _, _⟩ := fp2.cells)
      go_wp2_with fail
      refine hK.out _ _ (by (try dsimp only); go_keep) (fun hHeld => ?_)
      clear hK K
      try simp only [Act.put, List.setIfInBounds_toArray, List.set_cons_zero, List.set_cons_succ]
      refine wpAnyH_take (i := 3) (oi := { dst := some 59, op := Op.binOp BinOp.lss 3 (Operand.tmp 58) (Operand.const (Value.int IntKind.i64 0)) 3, type := 4, pos := "law.go:109", after := #[{ on := 2, ground := Ground.data }], guard := none }) (v := ?_) rfl (by kernel_rfl) (by kernel_rfl) (by kernel_rfl) (fun _ _ _ h => h) (Or.inl ⟨by rfl, ?_⟩) (by assumption) ?_
      rotate_left
      focus ((intro w hSw; (try dsimp only at hSw); go_simp); (try with_reducible rfl))
      try simp only [Act.put, List.setIfInBounds_toArray, List.set_cons_zero, List.set_cons_succ]
      refine wpAnyH_take (i := 4) (oi := { dst := some 60, op := Op.move (Operand.tmp 59), type := 4, pos := "law.go:109", after := #[{ on := 3, ground := Ground.data }, { on := 2, ground := Ground.chain }], guard := none }) (v := ?_) rfl (by kernel_rfl) (by kernel_rfl) (by kernel_rfl) (fun _ _ _ h => h) (Or.inl ⟨by rfl, ?_⟩) (by assumption) ?_
      rotate_left
      focus ((intro w hSw; (try dsimp only at hSw); go_simp); (try with_reducible rfl))
      try simp only [Act.put, List.setIfInBounds_toArray, List.set_cons_zero, List.set_cons_succ]
      refine wpAnyH_take (i := 5) (oi := { dst := some 61, op := Op.move (Operand.tmp 1), type := 3, pos := "law.go:109", after := #[{ on := 4, ground := Ground.guard }], guard := some (4, true) }) (v := ?_) rfl (by kernel_rfl) (by kernel_rfl) (by kernel_rfl) (fun _ _ _ h => h) (Or.inl ⟨by rfl, ?_⟩) (by assumption) ?_
      rotate_left
      focus ((intro w hSw; (try dsimp only at hSw); go_simp); (try with_reducible rfl))
      try simp only [Act.put, List.setIfInBounds_toArray, List.set_cons_zero, List.set_cons_succ]
      refine wpAnyH_take (i := 6) (oi := { dst := some 62, op := Op.binOp BinOp.gtr 3 (Operand.tmp 61) (Operand.const (Value.int IntKind.i64 2)) 3, type := 4, pos := "law.go:109", after := #[{ on := 5, ground := Ground.data }, { on := 4, ground := Ground.guard }], guard := some (4, true) }) (v := ?_) rfl (by kernel_rfl) (by kernel_rfl) (by kernel_rfl) (fun _ _ _ h => h) (Or.inl ⟨by rfl, ?_⟩) (by assumption) ?_
      rotate_left
      focus ((intro w hSw; (try dsimp only at hSw); go_simp); (try with_reducible rfl))
      try simp only [Act.put, List.setIfInBounds_toArray, List.set_cons_zero, List.set_cons_succ]
      refine wpAnyH_take (i := 7) (oi := { dst := some 63, op := Op.move (Operand.tmp 62), type := 4, pos := "law.go:109", after := #[{ on := 6, ground := Ground.data }, { on := 4, ground := Ground.chain }, { on := 4, ground := Ground.guard }], guard := some (4, true) }) (v := ?_) rfl (by kernel_rfl) (by kernel_rfl) (by kernel_rfl) (fun _ _ _ h => h) (Or.inl ⟨by rfl, ?_⟩) (by assumption) ?_
      rotate_left
      focus ((intro w hSw; (try dsimp only at hSw); go_simp); (try with_reducible rfl))
      try simp only [Act.put, List.setIfInBounds_toArray, List.set_cons_zero, List.set_cons_succ]
      refine wpAnyH_take (i := 8) (oi := { dst := some 64, op := Op.load 24 (Operand.tmp 7), type := 24, pos := "law.go:109", after := #[{ on := 7, ground := Ground.guard }], guard := some (7, false) }) (v := undef) rfl (by kernel_rfl) (by kernel_rfl) (by kernel_rfl) (fun _ _ _ h => h) (Or.inr ⟨by rfl, rfl⟩) (by assumption) ?_
      try simp only [Act.put, List.setIfInBounds_toArray, List.set_cons_zero, List.set_cons_succ]
      refine wpAnyH_take (i := 9) (oi := { dst := some 65, op := Op.call { callee := Callee.value (Operand.func 32), args := #[Operand.const (Value.int IntKind.i64 1), Operand.const (Value.int IntKind.i64 2)], argTypes := #[3, 3] }, type := 24, pos := "law.go:109", after := #[{ on := 7, ground := Ground.chain }, { on := 7, ground := Ground.guard }], guard := some (7, false) }) (v := undef) rfl (by kernel_rfl) (by kernel_rfl) (by kernel_rfl) (fun _ _ _ h => h) (Or.inr ⟨by rfl, rfl⟩) (by assumption) ?_
      try simp only [Act.put, List.setIfInBounds_toArray, List.set_cons_zero, List.set_cons_succ]
      refine wpAnyH_take (i := 10) (oi := { dst := some 66, op := Op.call { callee := Callee.value (Operand.func 29), args := #[Operand.tmp 64, Operand.tmp 65], argTypes := #[24, 24] }, type := 3, pos := "law.go:109", after := #[{ on := 8, ground := Ground.data }, { on := 9, ground := Ground.data }, { on := 9, ground := Ground.chain }, { on := 7, ground := Ground.guard }], guard := some (7, false) }) (v := undef) rfl (by kernel_rfl) (by kernel_rfl) (by kernel_rfl) (fun _ _ _ h => h) (Or.inr ⟨by rfl, rfl⟩) (by assumption) ?_
      try simp only [Act.put, List.setIfInBounds_toArray, List.set_cons_zero, List.set_cons_succ]
      refine wpAnyH_take (i := 11) (oi := { dst := some 67, op := Op.binOp BinOp.leq 3 (Operand.tmp 66) (Operand.const (Value.int IntKind.i64 0)) 3, type := 4, pos := "law.go:109", after := #[{ on := 10, ground := Ground.data }, { on := 7, ground := Ground.guard }], guard := some (7, false) }) (v := undef) rfl (by kernel_rfl) (by kernel_rfl) (by kernel_rfl) (fun _ _ _ h => h) (Or.inr ⟨by rfl, rfl⟩) (by assumption) ?_
      try simp only [Act.put, List.setIfInBounds_toArray, List.set_cons_zero, List.set_cons_succ]
      refine wpAnyH_take (i := 12) (oi := { dst := some 68, op := Op.pick (Operand.tmp 63) (Operand.const (Value.bool true)) (Operand.tmp 67), type := 4, pos := "law.go:109", after := #[{ on := 7, ground := Ground.data }, { on := 11, ground := Ground.data }, { on := 4, ground := Ground.guard }], guard := some (4, true) }) (v := ?_) rfl (by kernel_rfl) (by kernel_rfl) (by kernel_rfl) (fun _ _ _ h => h) (Or.inl ⟨by rfl, ?_⟩) (by assumption) ?_
      rotate_left
      focus ((intro w hSw; (try dsimp only at hSw); go_simp); (try with_reducible rfl))
      try simp only [Act.put, List.setIfInBounds_toArray, List.set_cons_zero, List.set_cons_succ]
      refine wpAnyH_take (i := 13) (oi := { dst := some 69, op := Op.pick (Operand.tmp 60) (Operand.tmp 68) (Operand.const (Value.bool false)), type := 4, pos := "law.go:109", after := #[{ on := 4, ground := Ground.data }, { on := 12, ground := Ground.data }], guard := none }) (v := ?_) rfl (by kernel_rfl) (by kernel_rfl) (by kernel_rfl) (fun _ _ _ h => h) (Or.inl ⟨by rfl, ?_⟩) (by assumption) ?_
      rotate_left
      focus ((intro w hSw; (try dsimp only at hSw); go_simp); (try with_reducible rfl))
      try simp only [Act.put, List.setIfInBounds_toArray, List.set_cons_zero, List.set_cons_succ]
      refine wpAnyH_take (i := 14) (oi := { dst := some 11, op := Op.assign (Operand.tmp 69), type := 4, pos := "law.go:109", after := #[{ on := 13, ground := Ground.data }, { on := 10, ground := Ground.chain }, { on := 0, ground := Ground.phase }, { on := 1, ground := Ground.phase }, { on := 2, ground := Ground.phase }, { on := 3, ground := Ground.phase }, { on := 4, ground := Ground.phase }, { on := 5, ground := Ground.phase }, { on := 6, ground := Ground.phase }, { on := 7, ground := Ground.phase }, { on := 8, ground := Ground.phase }, { on := 9, ground := Ground.phase }, { on := 10, ground := Ground.phase }, { on := 11, ground := Ground.phase }, { on := 12, ground := Ground.phase }, { on := 13, ground := Ground.phase }], guard := none }) (v := ?_) rfl (by kernel_rfl) (by kernel_rfl) (by kernel_rfl) (fun _ _ _ h => h) (Or.inl ⟨by rfl, ?_⟩) (by assumption) ?_
      rotate_left
      focus ((intro w hSw; (try dsimp only at hSw); go_simp); (try with_reducible rfl))
      try simp only [Act.put, List.setIfInBounds_toArray, List.set_cons_zero, List.set_cons_succ]
      refine wpAnyH_done (by kernel_rfl) ?_ _
      clear hHeld
      all_goals go_wp2_with fail
      all_goals go_meet
      all_goals exact ⟨rfl, (by first | exact HS.out | exact HS.out.drew | exact HS.out.drewN _)⟩
    · refine wp_region_held_drew (S := fun w' => w'.cell? ⟨b5, 0, none⟩ = some (.string ⟨#[49]⟩) ∧ w'.cell? ⟨b5, 1, none⟩ = some (.string ⟨#[]⟩) ∧ w'.cell? ⟨b2_0, 0, none⟩ = some (.string (cS D.1)) ∧ w'.cell? ⟨b2_0, 1, none⟩ = some (.string (cD D.2)) ∧ w'.cell? ⟨w.heap.size, 0, none⟩ = some (.string fn) ∧ w'.cell? ⟨w.heap.size, 1, none⟩ = some (.string fd)) (by kernel_rfl) (by (try dsimp only); go_keep) (fun hHeld => ?_)
      refine wpAnyH_take (i := 0) (oi := { dst := some 56, op := Op.load 24 (Operand.tmp 7), type := 24, pos := "law.go:109", after := #[], guard := none }) (v := ?_) rfl (by kernel_rfl) (by kernel_rfl) (by kernel_rfl) (fun _ _ _ h => h) (Or.inl ⟨by rfl, ?_⟩) (by assumption) ?_
      rotate_left
      focus ((intro w hSw; (try dsimp only at hSw); go_simp); (try with_reducible rfl))
      try simp only [Act.put, List.setIfInBounds_toArray, List.set_cons_zero, List.set_cons_succ]
      refine wpAnyH_take (i := 1) (oi := { dst := some 57, op := Op.load 24 (Operand.tmp 8), type := 24, pos := "law.go:109", after := #[], guard := none }) (v := ?_) rfl (by kernel_rfl) (by kernel_rfl) (by kernel_rfl) (fun _ _ _ h => h) (Or.inl ⟨by rfl, ?_⟩) (by assumption) ?_
      rotate_left
      focus ((intro w hSw; (try dsimp only at hSw); go_simp); (try with_reducible rfl))
      try simp only [Act.put, List.setIfInBounds_toArray, List.set_cons_zero, List.set_cons_succ]
      refine wpAnyH_ready (rs := [2]) (by kernel_rfl) (by simp) ?_
      refine AllReadyH.cons (o := { dst := some 58, op := Op.call { callee := Callee.value (Operand.func 29), args := #[Operand.tmp 56, Operand.tmp 57], argTypes := #[24, 24] }, type := 3, pos := "law.go:109", after := #[{ on := 0, ground := Ground.data }, { on := 1, ground := Ground.data }], guard := none }) rfl (fun K hK => ?_) AllReadyH.nil
      clear hHeld
      go_simp
      with_reducible refine Calls.mono (fCompare_v (c := -1) _ (by first | exact HS.out.g | exact HS.out.drew.g | exact (HS.out.drewN _).g) HEV.out H11.out HC1.out) ?_
      rintro e WX ⟨rfl, hB1⟩
      (have HS2 : StL w WX [(b5, ⟨#[49]⟩, ⟨#[]⟩), (b2_0, (cS D.1), (cD D.2)), (w.heap.size, fn, fd)] := (by first | exact HS.out.next hB1 | exact HS.out.next1 hB1 | exact HS.out.nextD hB1))
      (replace HS := Lib.hid HS2)
      (clear hB1 HS2)
      (obtain ⟨fp0, fp1, fp2, _⟩ := HS.out.box)
      (obtain ⟨fx0, fy0, _, _⟩ := fp0.cells)
      (obtain ⟨fx1, fy1, _, _⟩ := fp1.cells)
      (obtain ⟨fx2, fy2, _, _⟩ := fp2.cells)
      go_wp2_with fail
      refine hK.out _ _ (by (try dsimp only); go_keep) (fun hHeld => ?_)
      clear hK K
      try simp only [Act.put, List.setIfInBounds_toArray, List.set_cons_zero, List.set_cons_succ]
      refine wpAnyH_take (i := 3) (oi := { dst := some 59, op := Op.binOp BinOp.lss 3 (Operand.tmp 58) (Operand.const (Value.int IntKind.i64 0)) 3, type := 4, pos := "law.go:109", after := #[{ on := 2, ground := Ground.data }], guard := none }) (v := ?_) rfl (by kernel_rfl) (by kernel_rfl) (by kernel_rfl) (fun _ _ _ h => h) (Or.inl ⟨by rfl, ?_⟩) (by assumption) ?_
      rotate_left
      focus ((intro w hSw; (try dsimp only at hSw); go_simp); (try with_reducible rfl))
      try simp only [Act.put, List.setIfInBounds_toArray, List.set_cons_zero, List.set_cons_succ]
      refine wpAnyH_take (i := 4) (oi := { dst := some 60, op := Op.move (Operand.tmp 59), type := 4, pos := "law.go:109", after := #[{ on := 3, ground := Ground.data }, { on := 2, ground := Ground.chain }], guard := none }) (v := ?_) rfl (by kernel_rfl) (by kernel_rfl) (by kernel_rfl) (fun _ _ _ h => h) (Or.inl ⟨by rfl, ?_⟩) (by assumption) ?_
      rotate_left
      focus ((intro w hSw; (try dsimp only at hSw); go_simp); (try with_reducible rfl))
      try simp only [Act.put, List.setIfInBounds_toArray, List.set_cons_zero, List.set_cons_succ]
      refine wpAnyH_take (i := 5) (oi := { dst := some 61, op := Op.move (Operand.tmp 1), type := 3, pos := "law.go:109", after := #[{ on := 4, ground := Ground.guard }], guard := some (4, true) }) (v := ?_) rfl (by kernel_rfl) (by kernel_rfl) (by kernel_rfl) (fun _ _ _ h => h) (Or.inl ⟨by rfl, ?_⟩) (by assumption) ?_
      rotate_left
      focus ((intro w hSw; (try dsimp only at hSw); go_simp); (try with_reducible rfl))
      try simp only [Act.put, List.setIfInBounds_toArray, List.set_cons_zero, List.set_cons_succ]
      refine wpAnyH_take (i := 6) (oi := { dst := some 62, op := Op.binOp BinOp.gtr 3 (Operand.tmp 61) (Operand.const (Value.int IntKind.i64 2)) 3, type := 4, pos := "law.go:109", after := #[{ on := 5, ground := Ground.data }, { on := 4, ground := Ground.guard }], guard := some (4, true) }) (v := ?_) rfl (by kernel_rfl) (by kernel_rfl) (by kernel_rfl) (fun _ _ _ h => h) (Or.inl ⟨by rfl, ?_⟩) (by assumption) ?_
      rotate_left
      focus ((intro w hSw; (try dsimp only at hSw); go_simp); (try with_reducible rfl))
      try simp only [Act.put, List.setIfInBounds_toArray, List.set_cons_zero, List.set_cons_succ]
      refine wpAnyH_take (i := 7) (oi := { dst := some 63, op := Op.move (Operand.tmp 62), type := 4, pos := "law.go:109", after := #[{ on := 6, ground := Ground.data }, { on := 4, ground := Ground.chain }, { on := 4, ground := Ground.guard }], guard := some (4, true) }) (v := ?_) rfl (by kernel_rfl) (by kernel_rfl) (by kernel_rfl) (fun _ _ _ h => h) (Or.inl ⟨by rfl, ?_⟩) (by assumption) ?_
      rotate_left
      focus ((intro w hSw; (try dsimp only at hSw); go_simp); (try with_reducible rfl))
      try simp only [Act.put, List.setIfInBounds_toArray, List.set_cons_zero, List.set_cons_succ]
      refine wpAnyH_take (i := 8) (oi := { dst := some 64, op := Op.load 24 (Operand.tmp 7), type := 24, pos := "law.go:109", after := #[{ on := 7, ground := Ground.guard }], guard := some (7, false) }) (v := undef) rfl (by kernel_rfl) (by kernel_rfl) (by kernel_rfl) (fun _ _ _ h => h) (Or.inr ⟨by rfl, rfl⟩) (by assumption) ?_
      try simp only [Act.put, List.setIfInBounds_toArray, List.set_cons_zero, List.set_cons_succ]
      refine wpAnyH_take (i := 9) (oi := { dst := some 65, op := Op.call { callee := Callee.value (Operand.func 32), args := #[Operand.const (Value.int IntKind.i64 1), Operand.const (Value.int IntKind.i64 2)], argTypes := #[3, 3] }, type := 24, pos := "law.go:109", after := #[{ on := 7, ground := Ground.chain }, { on := 7, ground := Ground.guard }], guard := some (7, false) }) (v := undef) rfl (by kernel_rfl) (by kernel_rfl) (by kernel_rfl) (fun _ _ _ h => h) (Or.inr ⟨by rfl, rfl⟩) (by assumption) ?_
      try simp only [Act.put, List.setIfInBounds_toArray, List.set_cons_zero, List.set_cons_succ]
      refine wpAnyH_take (i := 10) (oi := { dst := some 66, op := Op.call { callee := Callee.value (Operand.func 29), args := #[Operand.tmp 64, Operand.tmp 65], argTypes := #[24, 24] }, type := 3, pos := "law.go:109", after := #[{ on := 8, ground := Ground.data }, { on := 9, ground := Ground.data }, { on := 9, ground := Ground.chain }, { on := 7, ground := Ground.guard }], guard := some (7, false) }) (v := undef) rfl (by kernel_rfl) (by kernel_rfl) (by kernel_rfl) (fun _ _ _ h => h) (Or.inr ⟨by rfl, rfl⟩) (by assumption) ?_
      try simp only [Act.put, List.setIfInBounds_toArray, List.set_cons_zero, List.set_cons_succ]
      refine wpAnyH_take (i := 11) (oi := { dst := some 67, op := Op.binOp BinOp.leq 3 (Operand.tmp 66) (Operand.const (Value.int IntKind.i64 0)) 3, type := 4, pos := "law.go:109", after := #[{ on := 10, ground := Ground.data }, { on := 7, ground := Ground.guard }], guard := some (7, false) }) (v := undef) rfl (by kernel_rfl) (by kernel_rfl) (by kernel_rfl) (fun _ _ _ h => h) (Or.inr ⟨by rfl, rfl⟩) (by assumption) ?_
      try simp only [Act.put, List.setIfInBounds_toArray, List.set_cons_zero, List.set_cons_succ]
      refine wpAnyH_take (i := 12) (oi := { dst := some 68, op := Op.pick (Operand.tmp 63) (Operand.const (Value.bool true)) (Operand.tmp 67), type := 4, pos := "law.go:109", after := #[{ on := 7, ground := Ground.data }, { on := 11, ground := Ground.data }, { on := 4, ground := Ground.guard }], guard := some (4, true) }) (v := ?_) rfl (by kernel_rfl) (by kernel_rfl) (by kernel_rfl) (fun _ _ _ h => h) (Or.inl ⟨by rfl, ?_⟩) (by assumption) ?_
      rotate_left
      focus ((intro w hSw; (try dsimp only at hSw); go_simp); (try with_reducible rfl))
      try simp only [Act.put, List.setIfInBounds_toArray, List.set_cons_zero, List.set_cons_succ]
      refine wpAnyH_take (i := 13) (oi := { dst := some 69, op := Op.pick (Operand.tmp 60) (Operand.tmp 68) (Operand.const (Value.bool false)), type := 4, pos := "law.go:109", after := #[{ on := 4, ground := Ground.data }, { on := 12, ground := Ground.data }], guard := none }) (v := ?_) rfl (by kernel_rfl) (by kernel_rfl) (by kernel_rfl) (fun _ _ _ h => h) (Or.inl ⟨by rfl, ?_⟩) (by assumption) ?_
      rotate_left
      focus ((intro w hSw; (try dsimp only at hSw); go_simp); (try with_reducible rfl))
      try simp only [Act.put, List.setIfInBounds_toArray, List.set_cons_zero, List.set_cons_succ]
      refine wpAnyH_take (i := 14) (oi := { dst := some 11, op := Op.assign (Operand.tmp 69), type := 4, pos := "law.go:109", after := #[{ on := 13, ground := Ground.data }, { on := 10, ground := Ground.chain }, { on := 0, ground := Ground.phase }, { on := 1, ground := Ground.phase }, { on := 2, ground := Ground.phase }, { on := 3, ground := Ground.phase }, { on := 4, ground := Ground.phase }, { on := 5, ground := Ground.phase }, { on := 6, ground := Ground.phase }, { on := 7, ground := Ground.phase }, { on := 8, ground := Ground.phase }, { on := 9, ground := Ground.phase }, { on := 10, ground := Ground.phase }, { on := 11, ground := Ground.phase }, { on := 12, ground := Ground.phase }, { on := 13, ground := Ground.phase }], guard := none }) (v := ?_) rfl (by kernel_rfl) (by kernel_rfl) (by kernel_rfl) (fun _ _ _ h => h) (Or.inl ⟨by rfl, ?_⟩) (by assumption) ?_
      rotate_left
      focus ((intro w hSw; (try dsimp only at hSw); go_simp); (try with_reducible rfl))
      try simp only [Act.put, List.setIfInBounds_toArray, List.set_cons_zero, List.set_cons_succ]
      refine wpAnyH_done (by kernel_rfl) ?_ _
      clear hHeld
      all_goals go_wp2_with fail
      all_goals go_meet
      all_goals exact ⟨rfl, (by first | exact HS.out | exact HS.out.drew | exact HS.out.drewN _)⟩
    · refine wp_region_held_drew (S := fun w' => w'.cell? ⟨b5, 0, none⟩ = some (.string ⟨#[49]⟩) ∧ w'.cell? ⟨b5, 1, none⟩ = some (.string ⟨#[]⟩) ∧ w'.cell? ⟨b2_0, 0, none⟩ = some (.string (cS D.1)) ∧ w'.cell? ⟨b2_0, 1, none⟩ = some (.string (cD D.2)) ∧ w'.cell? ⟨w.heap.size, 0, none⟩ = some (.string fn) ∧ w'.cell? ⟨w.heap.size, 1, none⟩ = some (.string fd)) (by kernel_rfl) (by (try dsimp only); go_keep) (fun hHeld => ?_)
      refine wpAnyH_take (i := 0) (oi := { dst := some 56, op := Op.load 24 (Operand.tmp 7), type := 24, pos := "law.go:109", after := #[], guard := none }) (v := ?_) rfl (by kernel_rfl) (by kernel_rfl) (by kernel_rfl) (fun _ _ _ h => h) (Or.inl ⟨by rfl, ?_⟩) (by assumption) ?_
      rotate_left
      focus ((intro w hSw; (try dsimp only at hSw); go_simp); (try with_reducible rfl))
      try simp only [Act.put, List.setIfInBounds_toArray, List.set_cons_zero, List.set_cons_succ]
      refine wpAnyH_take (i := 1) (oi := { dst := some 57, op := Op.load 24 (Operand.tmp 8), type := 24, pos := "law.go:109", after := #[], guard := none }) (v := ?_) rfl (by kernel_rfl) (by kernel_rfl) (by kernel_rfl) (fun _ _ _ h => h) (Or.inl ⟨by rfl, ?_⟩) (by assumption) ?_
      rotate_left
      focus ((intro w hSw; (try dsimp only at hSw); go_simp); (try with_reducible rfl))
      try simp only [Act.put, List.setIfInBounds_toArray, List.set_cons_zero, List.set_cons_succ]
      refine wpAnyH_ready (rs := [2]) (by kernel_rfl) (by simp) ?_
      refine AllReadyH.cons (o := { dst := some 58, op := Op.call { callee := Callee.value (Operand.func 29), args := #[Operand.tmp 56, Operand.tmp 57], argTypes := #[24, 24] }, type := 3, pos := "law.go:109", after := #[{ on := 0, ground := Ground.data }, { on := 1, ground := Ground.data }], guard := none }) rfl (fun K hK => ?_) AllReadyH.nil
      clear hHeld
      go_simp
      with_reducible refine Calls.mono (fCompare_v (c := -1) _ (by first | exact HS.out.g | exact HS.out.drew.g | exact (HS.out.drewN _).g) HEV.out H11.out HC1.out) ?_
      rintro e WX ⟨rfl, hB1⟩
      (have HS2 : StL w WX [(b5, ⟨#[49]⟩, ⟨#[]⟩), (b2_0, (cS D.1), (cD D.2)), (w.heap.size, fn, fd)] := (by first | exact HS.out.next hB1 | exact HS.out.next1 hB1 | exact HS.out.nextD hB1))
      (replace HS := Lib.hid HS2)
      (clear hB1 HS2)
      (obtain ⟨fp0, fp1, fp2, _⟩ := HS.out.box)
      (obtain ⟨fx0, fy0, _, _⟩ := fp0.cells)
      (obtain ⟨fx1, fy1, _, _⟩ := fp1.cells)
      (obtain ⟨fx2, fy2, _, _⟩ := fp2.cells)
      go_wp2_with fail
      refine hK.out _ _ (by (try dsimp only); go_keep) (fun hHeld => ?_)
      clear hK K
      try simp only [Act.put, List.setIfInBounds_toArray, List.set_cons_zero, List.set_cons_succ]
      refine wpAnyH_take (i := 3) (oi := { dst := some 59, op := Op.binOp BinOp.lss 3 (Operand.tmp 58) (Operand.const (Value.int IntKind.i64 0)) 3, type := 4, pos := "law.go:109", after := #[{ on := 2, ground := Ground.data }], guard := none }) (v := ?_) rfl (by kernel_rfl) (by kernel_rfl) (by kernel_rfl) (fun _ _ _ h => h) (Or.inl ⟨by rfl, ?_⟩) (by assumption) ?_
      rotate_left
      focus ((intro w hSw; (try dsimp only at hSw); go_simp); (try with_reducible rfl))
      try simp only [Act.put, List.setIfInBounds_toArray, List.set_cons_zero, List.set_cons_succ]
      refine wpAnyH_take (i := 4) (oi := { dst := some 60, op := Op.move (Operand.tmp 59), type := 4, pos := "law.go:109", after := #[{ on := 3, ground := Ground.data }, { on := 2, ground := Ground.chain }], guard := none }) (v := ?_) rfl (by kernel_rfl) (by kernel_rfl) (by kernel_rfl) (fun _ _ _ h => h) (Or.inl ⟨by rfl, ?_⟩) (by assumption) ?_
      rotate_left
      focus ((intro w hSw; (try dsimp only at hSw); go_simp); (try with_reducible rfl))
      try simp only [Act.put, List.setIfInBounds_toArray, List.set_cons_zero, List.set_cons_succ]
      refine wpAnyH_take (i := 5) (oi := { dst := some 61, op := Op.move (Operand.tmp 1), type := 3, pos := "law.go:109", after := #[{ on := 4, ground := Ground.guard }], guard := some (4, true) }) (v := ?_) rfl (by kernel_rfl) (by kernel_rfl) (by kernel_rfl) (fun _ _ _ h => h) (Or.inl ⟨by rfl, ?_⟩) (by assumption) ?_
      rotate_left
      focus ((intro w hSw; (try dsimp only at hSw); go_simp); (try with_reducible rfl))
      try simp only [Act.put, List.setIfInBounds_toArray, List.set_cons_zero, List.set_cons_succ]
      refine wpAnyH_take (i := 6) (oi := { dst := some 62, op := Op.binOp BinOp.gtr 3 (Operand.tmp 61) (Operand.const (Value.int IntKind.i64 2)) 3, type := 4, pos := "law.go:109", after := #[{ on := 5, ground := Ground.data }, { on := 4, ground := Ground.guard }], guard := some (4, true) }) (v := ?_) rfl (by kernel_rfl) (by kernel_rfl) (by kernel_rfl) (fun _ _ _ h => h) (Or.inl ⟨by rfl, ?_⟩) (by assumption) ?_
      rotate_left
      focus ((intro w hSw; (try dsimp only at hSw); go_simp); (try with_reducible rfl))
      try simp only [Act.put, List.setIfInBounds_toArray, List.set_cons_zero, List.set_cons_succ]
      refine wpAnyH_take (i := 7) (oi := { dst := some 63, op := Op.move (Operand.tmp 62), type := 4, pos := "law.go:109", after := #[{ on := 6, ground := Ground.data }, { on := 4, ground := Ground.chain }, { on := 4, ground := Ground.guard }], guard := some (4, true) }) (v := ?_) rfl (by kernel_rfl) (by kernel_rfl) (by kernel_rfl) (fun _ _ _ h => h) (Or.inl ⟨by rfl, ?_⟩) (by assumption) ?_
      rotate_left
      focus ((intro w hSw; (try dsimp only at hSw); go_simp); (try with_reducible rfl))
      try simp only [Act.put, List.setIfInBounds_toArray, List.set_cons_zero, List.set_cons_succ]
      refine wpAnyH_take (i := 8) (oi := { dst := some 64, op := Op.load 24 (Operand.tmp 7), type := 24, pos := "law.go:109", after := #[{ on := 7, ground := Ground.guard }], guard := some (7, false) }) (v := undef) rfl (by kernel_rfl) (by kernel_rfl) (by kernel_rfl) (fun _ _ _ h => h) (Or.inr ⟨by rfl, rfl⟩) (by assumption) ?_
      try simp only [Act.put, List.setIfInBounds_toArray, List.set_cons_zero, List.set_cons_succ]
      refine wpAnyH_take (i := 9) (oi := { dst := some 65, op := Op.call { callee := Callee.value (Operand.func 32), args := #[Operand.const (Value.int IntKind.i64 1), Operand.const (Value.int IntKind.i64 2)], argTypes := #[3, 3] }, type := 24, pos := "law.go:109", after := #[{ on := 7, ground := Ground.chain }, { on := 7, ground := Ground.guard }], guard := some (7, false) }) (v := undef) rfl (by kernel_rfl) (by kernel_rfl) (by kernel_rfl) (fun _ _ _ h => h) (Or.inr ⟨by rfl, rfl⟩) (by assumption) ?_
      try simp only [Act.put, List.setIfInBounds_toArray, List.set_cons_zero, List.set_cons_succ]
      refine wpAnyH_take (i := 10) (oi := { dst := some 66, op := Op.call { callee := Callee.value (Operand.func 29), args := #[Operand.tmp 64, Operand.tmp 65], argTypes := #[24, 24] }, type := 3, pos := "law.go:109", after := #[{ on := 8, ground := Ground.data }, { on := 9, ground := Ground.data }, { on := 9, ground := Ground.chain }, { on := 7, ground := Ground.guard }], guard := some (7, false) }) (v := undef) rfl (by kernel_rfl) (by kernel_rfl) (by kernel_rfl) (fun _ _ _ h => h) (Or.inr ⟨by rfl, rfl⟩) (by assumption) ?_
      try simp only [Act.put, List.setIfInBounds_toArray, List.set_cons_zero, List.set_cons_succ]
      refine wpAnyH_take (i := 11) (oi := { dst := some 67, op := Op.binOp BinOp.leq 3 (Operand.tmp 66) (Operand.const (Value.int IntKind.i64 0)) 3, type := 4, pos := "law.go:109", after := #[{ on := 10, ground := Ground.data }, { on := 7, ground := Ground.guard }], guard := some (7, false) }) (v := undef) rfl (by kernel_rfl) (by kernel_rfl) (by kernel_rfl) (fun _ _ _ h => h) (Or.inr ⟨by rfl, rfl⟩) (by assumption) ?_
      try simp only [Act.put, List.setIfInBounds_toArray, List.set_cons_zero, List.set_cons_succ]
      refine wpAnyH_take (i := 12) (oi := { dst := some 68, op := Op.pick (Operand.tmp 63) (Operand.const (Value.bool true)) (Operand.tmp 67), type := 4, pos := "law.go:109", after := #[{ on := 7, ground := Ground.data }, { on := 11, ground := Ground.data }, { on := 4, ground := Ground.guard }], guard := some (4, true) }) (v := ?_) rfl (by kernel_rfl) (by kernel_rfl) (by kernel_rfl) (fun _ _ _ h => h) (Or.inl ⟨by rfl, ?_⟩) (by assumption) ?_
      rotate_left
      focus ((intro w hSw; (try dsimp only at hSw); go_simp); (try with_reducible rfl))
      try simp only [Act.put, List.setIfInBounds_toArray, List.set_cons_zero, List.set_cons_succ]
      refine wpAnyH_take (i := 13) (oi := { dst := some 69, op := Op.pick (Operand.tmp 60) (Operand.tmp 68) (Operand.const (Value.bool false)), type := 4, pos := "law.go:109", after := #[{ on := 4, ground := Ground.data }, { on := 12, ground := Ground.data }], guard := none }) (v := ?_) rfl (by kernel_rfl) (by kernel_rfl) (by kernel_rfl) (fun _ _ _ h => h) (Or.inl ⟨by rfl, ?_⟩) (by assumption) ?_
      rotate_left
      focus ((intro w hSw; (try dsimp only at hSw); go_simp); (try with_reducible rfl))
      try simp only [Act.put, List.setIfInBounds_toArray, List.set_cons_zero, List.set_cons_succ]
      refine wpAnyH_take (i := 14) (oi := { dst := some 11, op := Op.assign (Operand.tmp 69), type := 4, pos := "law.go:109", after := #[{ on := 13, ground := Ground.data }, { on := 10, ground := Ground.chain }, { on := 0, ground := Ground.phase }, { on := 1, ground := Ground.phase }, { on := 2, ground := Ground.phase }, { on := 3, ground := Ground.phase }, { on := 4, ground := Ground.phase }, { on := 5, ground := Ground.phase }, { on := 6, ground := Ground.phase }, { on := 7, ground := Ground.phase }, { on := 8, ground := Ground.phase }, { on := 9, ground := Ground.phase }, { on := 10, ground := Ground.phase }, { on := 11, ground := Ground.phase }, { on := 12, ground := Ground.phase }, { on := 13, ground := Ground.phase }], guard := none }) (v := ?_) rfl (by kernel_rfl) (by kernel_rfl) (by kernel_rfl) (fun _ _ _ h => h) (Or.inl ⟨by rfl, ?_⟩) (by assumption) ?_
      rotate_left
      focus ((intro w hSw; (try dsimp only at hSw); go_simp); (try with_reducible rfl))
      try simp only [Act.put, List.setIfInBounds_toArray, List.set_cons_zero, List.set_cons_succ]
      refine wpAnyH_done (by kernel_rfl) ?_ _
      clear hHeld
      all_goals go_wp2_with fail
      all_goals go_meet
      all_goals exact ⟨rfl, (by first | exact HS.out | exact HS.out.drew | exact HS.out.drewN _)⟩
    · refine wp_region_held_drew (S := fun w' => w'.cell? ⟨b5, 0, none⟩ = some (.string ⟨#[49]⟩) ∧ w'.cell? ⟨b5, 1, none⟩ = some (.string ⟨#[]⟩) ∧ w'.cell? ⟨b2_0, 0, none⟩ = some (.string (cS D.1)) ∧ w'.cell? ⟨b2_0, 1, none⟩ = some (.string (cD D.2)) ∧ w'.cell? ⟨w.heap.size, 0, none⟩ = some (.string fn) ∧ w'.cell? ⟨w.heap.size, 1, none⟩ = some (.string fd)) (by kernel_rfl) (by (try dsimp only); go_keep) (fun hHeld => ?_)
      refine wpAnyH_take (i := 0) (oi := { dst := some 56, op := Op.load 24 (Operand.tmp 7), type := 24, pos := "law.go:109", after := #[], guard := none }) (v := ?_) rfl (by kernel_rfl) (by kernel_rfl) (by kernel_rfl) (fun _ _ _ h => h) (Or.inl ⟨by rfl, ?_⟩) (by assumption) ?_
      rotate_left
      focus ((intro w hSw; (try dsimp only at hSw); go_simp); (try with_reducible rfl))
      try simp only [Act.put, List.setIfInBounds_toArray, List.set_cons_zero, List.set_cons_succ]
      refine wpAnyH_take (i := 1) (oi := { dst := some 57, op := Op.load 24 (Operand.tmp 8), type := 24, pos := "law.go:109", after := #[], guard := none }) (v := ?_) rfl (by kernel_rfl) (by kernel_rfl) (by kernel_rfl) (fun _ _ _ h => h) (Or.inl ⟨by rfl, ?_⟩) (by assumption) ?_
      rotate_left
      focus ((intro w hSw; (try dsimp only at hSw); go_simp); (try with_reducible rfl))
      try simp only [Act.put, List.setIfInBounds_toArray, List.set_cons_zero, List.set_cons_succ]
      refine wpAnyH_ready (rs := [2]) (by kernel_rfl) (by simp) ?_
      refine AllReadyH.cons (o := { dst := some 58, op := Op.call { callee := Callee.value (Operand.func 29), args := #[Operand.tmp 56, Operand.tmp 57], argTypes := #[24, 24] }, type := 3, pos := "law.go:109", after := #[{ on := 0, ground := Ground.data }, { on := 1, ground := Ground.data }], guard := none }) rfl (fun K hK => ?_) AllReadyH.nil
      clear hHeld
      go_simp
      with_reducible refine Calls.mono (fCompare_v (c := -1) _ (by first | exact HS.out.g | exact HS.out.drew.g | exact (HS.out.drewN _).g) HEV.out H11.out HC1.out) ?_
      rintro e WX ⟨rfl, hB1⟩
      (have HS2 : StL w WX [(b5, ⟨#[49]⟩, ⟨#[]⟩), (b2_0, (cS D.1), (cD D.2)), (w.heap.size, fn, fd)] := (by first | exact HS.out.next hB1 | exact HS.out.next1 hB1 | exact HS.out.nextD hB1))
      (replace HS := Lib.hid HS2)
      (clear hB1 HS2)
      (obtain ⟨fp0, fp1, fp2, _⟩ := HS.out.box)
      (obtain ⟨fx0, fy0, _, _⟩ := fp0.cells)
      (obtain ⟨fx1, fy1, _, _⟩ := fp1.cells)
      (obtain ⟨fx2, fy2, _, _⟩ := fp2.cells)
      go_wp2_with fail
      refine hK.out _ _ (by (try dsimp only); go_keep) (fun hHeld => ?_)
      clear hK K
      try simp only [Act.put, List.setIfInBounds_toArray, List.set_cons_zero, List.set_cons_succ]
      refine wpAnyH_take (i := 3) (oi := { dst := some 59, op := Op.binOp BinOp.lss 3 (Operand.tmp 58) (Operand.const (Value.int IntKind.i64 0)) 3, type := 4, pos := "law.go:109", after := #[{ on := 2, ground := Ground.data }], guard := none }) (v := ?_) rfl (by kernel_rfl) (by kernel_rfl) (by kernel_rfl) (fun _ _ _ h => h) (Or.inl ⟨by rfl, ?_⟩) (by assumption) ?_
      rotate_left
      focus ((intro w hSw; (try dsimp only at hSw); go_simp); (try with_reducible rfl))
      try simp only [Act.put, List.setIfInBounds_toArray, List.set_cons_zero, List.set_cons_succ]
      refine wpAnyH_take (i := 4) (oi := { dst := some 60, op := Op.move (Operand.tmp 59), type := 4, pos := "law.go:109", after := #[{ on := 3, ground := Ground.data }, { on := 2, ground := Ground.chain }], guard := none }) (v := ?_) rfl (by kernel_rfl) (by kernel_rfl) (by kernel_rfl) (fun _ _ _ h => h) (Or.inl ⟨by rfl, ?_⟩) (by assumption) ?_
      rotate_left
      focus ((intro w hSw; (try dsimp only at hSw); go_simp); (try with_reducible rfl))
      try simp only [Act.put, List.setIfInBounds_toArray, List.set_cons_zero, List.set_cons_succ]
      refine wpAnyH_take (i := 5) (oi := { dst := some 61, op := Op.move (Operand.tmp 1), type := 3, pos := "law.go:109", after := #[{ on := 4, ground := Ground.guard }], guard := some (4, true) }) (v := ?_) rfl (by kernel_rfl) (by kernel_rfl) (by kernel_rfl) (fun _ _ _ h => h) (Or.inl ⟨by rfl, ?_⟩) (by assumption) ?_
      rotate_left
      focus ((intro w hSw; (try dsimp only at hSw); go_simp); (try with_reducible rfl))
      try simp only [Act.put, List.setIfInBounds_toArray, List.set_cons_zero, List.set_cons_succ]
      refine wpAnyH_take (i := 6) (oi := { dst := some 62, op := Op.binOp BinOp.gtr 3 (Operand.tmp 61) (Operand.const (Value.int IntKind.i64 2)) 3, type := 4, pos := "law.go:109", after := #[{ on := 5, ground := Ground.data }, { on := 4, ground := Ground.guard }], guard := some (4, true) }) (v := ?_) rfl (by kernel_rfl) (by kernel_rfl) (by kernel_rfl) (fun _ _ _ h => h) (Or.inl ⟨by rfl, ?_⟩) (by assumption) ?_
      rotate_left
      focus ((intro w hSw; (try dsimp only at hSw); go_simp); (try with_reducible rfl))
      try simp only [Act.put, List.setIfInBounds_toArray, List.set_cons_zero, List.set_cons_succ]
      refine wpAnyH_take (i := 7) (oi := { dst := some 63, op := Op.move (Operand.tmp 62), type := 4, pos := "law.go:109", after := #[{ on := 6, ground := Ground.data }, { on := 4, ground := Ground.chain }, { on := 4, ground := Ground.guard }], guard := some (4, true) }) (v := ?_) rfl (by kernel_rfl) (by kernel_rfl) (by kernel_rfl) (fun _ _ _ h => h) (Or.inl ⟨by rfl, ?_⟩) (by assumption) ?_
      rotate_left
      focus ((intro w hSw; (try dsimp only at hSw); go_simp); (try with_reducible rfl))
      try simp only [Act.put, List.setIfInBounds_toArray, List.set_cons_zero, List.set_cons_succ]
      refine wpAnyH_take (i := 8) (oi := { dst := some 64, op := Op.load 24 (Operand.tmp 7), type := 24, pos := "law.go:109", after := #[{ on := 7, ground := Ground.guard }], guard := some (7, false) }) (v := undef) rfl (by kernel_rfl) (by kernel_rfl) (by kernel_rfl) (fun _ _ _ h => h) (Or.inr ⟨by rfl, rfl⟩) (by assumption) ?_
      try simp only [Act.put, List.setIfInBounds_toArray, List.set_cons_zero, List.set_cons_succ]
      refine wpAnyH_take (i := 9) (oi := { dst := some 65, op := Op.call { callee := Callee.value (Operand.func 32), args := #[Operand.const (Value.int IntKind.i64 1), Operand.const (Value.int IntKind.i64 2)], argTypes := #[3, 3] }, type := 24, pos := "law.go:109", after := #[{ on := 7, ground := Ground.chain }, { on := 7, ground := Ground.guard }], guard := some (7, false) }) (v := undef) rfl (by kernel_rfl) (by kernel_rfl) (by kernel_rfl) (fun _ _ _ h => h) (Or.inr ⟨by rfl, rfl⟩) (by assumption) ?_
      try simp only [Act.put, List.setIfInBounds_toArray, List.set_cons_zero, List.set_cons_succ]
      refine wpAnyH_take (i := 10) (oi := { dst := some 66, op := Op.call { callee := Callee.value (Operand.func 29), args := #[Operand.tmp 64, Operand.tmp 65], argTypes := #[24, 24] }, type := 3, pos := "law.go:109", after := #[{ on := 8, ground := Ground.data }, { on := 9, ground := Ground.data }, { on := 9, ground := Ground.chain }, { on := 7, ground := Ground.guard }], guard := some (7, false) }) (v := undef) rfl (by kernel_rfl) (by kernel_rfl) (by kernel_rfl) (fun _ _ _ h => h) (Or.inr ⟨by rfl, rfl⟩) (by assumption) ?_
      try simp only [Act.put, List.setIfInBounds_toArray, List.set_cons_zero, List.set_cons_succ]
      refine wpAnyH_take (i := 11) (oi := { dst := some 67, op := Op.binOp BinOp.leq 3 (Operand.tmp 66) (Operand.const (Value.int IntKind.i64 0)) 3, type := 4, pos := "law.go:109", after := #[{ on := 10, ground := Ground.data }, { on := 7, ground := Ground.guard }], guard := some (7, false) }) (v := undef) rfl (by kernel_rfl) (by kernel_rfl) (by kernel_rfl) (fun _ _ _ h => h) (Or.inr ⟨by rfl, rfl⟩) (by assumption) ?_
      try simp only [Act.put, List.setIfInBounds_toArray, List.set_cons_zero, List.set_cons_succ]
      refine wpAnyH_take (i := 12) (oi := { dst := some 68, op := Op.pick (Operand.tmp 63) (Operand.const (Value.bool true)) (Operand.tmp 67), type := 4, pos := "law.go:109", after := #[{ on := 7, ground := Ground.data }, { on := 11, ground := Ground.data }, { on := 4, ground := Ground.guard }], guard := some (4, true) }) (v := ?_) rfl (by kernel_rfl) (by kernel_rfl) (by kernel_rfl) (fun _ _ _ h => h) (Or.inl ⟨by rfl, ?_⟩) (by assumption) ?_
      rotate_left
      focus ((intro w hSw; (try dsimp only at hSw); go_simp); (try with_reducible rfl))
      try simp only [Act.put, List.setIfInBounds_toArray, List.set_cons_zero, List.set_cons_succ]
      refine wpAnyH_take (i := 13) (oi := { dst := some 69, op := Op.pick (Operand.tmp 60) (Operand.tmp 68) (Operand.const (Value.bool false)), type := 4, pos := "law.go:109", after := #[{ on := 4, ground := Ground.data }, { on := 12, ground := Ground.data }], guard := none }) (v := ?_) rfl (by kernel_rfl) (by kernel_rfl) (by kernel_rfl) (fun _ _ _ h => h) (Or.inl ⟨by rfl, ?_⟩) (by assumption) ?_
      rotate_left
      focus ((intro w hSw; (try dsimp only at hSw); go_simp); (try with_reducible rfl))
      try simp only [Act.put, List.setIfInBounds_toArray, List.set_cons_zero, List.set_cons_succ]
      refine wpAnyH_take (i := 14) (oi := { dst := some 11, op := Op.assign (Operand.tmp 69), type := 4, pos := "law.go:109", after := #[{ on := 13, ground := Ground.data }, { on := 10, ground := Ground.chain }, { on := 0, ground := Ground.phase }, { on := 1, ground := Ground.phase }, { on := 2, ground := Ground.phase }, { on := 3, ground := Ground.phase }, { on := 4, ground := Ground.phase }, { on := 5, ground := Ground.phase }, { on := 6, ground := Ground.phase }, { on := 7, ground := Ground.phase }, { on := 8, ground := Ground.phase }, { on := 9, ground := Ground.phase }, { on := 10, ground := Ground.phase }, { on := 11, ground := Ground.phase }, { on := 12, ground := Ground.phase }, { on := 13, ground := Ground.phase }], guard := none }) (v := ?_) rfl (by kernel_rfl) (by kernel_rfl) (by kernel_rfl) (fun _ _ _ h => h) (Or.inl ⟨by rfl, ?_⟩) (by assumption) ?_
      rotate_left
      focus ((intro w hSw; (try dsimp only at hSw); go_simp); (try with_reducible rfl))
      try simp only [Act.put, List.setIfInBounds_toArray, List.set_cons_zero, List.set_cons_succ]
      refine wpAnyH_done (by kernel_rfl) ?_ _
      clear hHeld
      all_goals go_wp2_with fail
      all_goals go_meet
      all_goals exact ⟨rfl, (by first | exact HS.out | exact HS.out.drew | exact HS.out.drewN _)⟩
  clear HS
  clear fp0 fx0 fy0 fp1 fx1 fy1 fp2 fx2 fy2
  obtain ⟨rfl, hS⟩ := hcut
  obtain ⟨w9, hw⟩ : ∃ W, W = wc := ⟨_, rfl⟩
  rw [← hw] at hS
  rw [← hw]
  clear hw
  obtain ⟨fp0, fp1, fp2, _⟩ := hS.box
  obtain ⟨fx0, fy0, _, _⟩ := fp0.cells
  obtain ⟨fx1, fy1, _, _⟩ := fp1.cells
  obtain ⟨fx2, fy2, _, _⟩ := fp2.cells
  go_wp2_with fail
  clear fp0 fx0 fy0 fp1 fx1 fy1 fp2 fx2 fy2
  refine Calls.mono (fParts_v (z := low x) _ hS.g (HF.out.arg (by decide)) rfl) ?_
  rintro _ w10 ⟨rfl, hB⟩
  replace hS := hS.next hB
  clear hB
  obtain ⟨fp0, fp1, fp2, _⟩ := hS.box
  obtain ⟨fx0, fy0, _, _⟩ := fp0.cells
  obtain ⟨fx1, fy1, _, _⟩ := fp1.cells
  obtain ⟨fx2, fy2, _, _⟩ := fp2.cells
  go_upto_region 13 with fail
  clear fp0 fx0 fy0 fp1 fx1 fy1 fp2 fx2 fy2
  obtain ⟨fp0, fp1, fp2, _⟩ := hS.box
  obtain ⟨fx0, fy0, _, _⟩ := fp0.cells
  obtain ⟨fx1, fy1, _, _⟩ := fp1.cells
  obtain ⟨fx2, fy2, _, _⟩ := fp2.cells
  try go_upto_region 13 with fail
  have HS := Lib.hid hS
  clear hS
  go_cut [4] (fun s4 wx => s4 = .bool true ∧ StL w wx [(b5, ⟨#[49]⟩, ⟨#[]⟩), (b2_0, (cS D.1), (cD D.2)), (w.heap.size, fn, fd)])
  case first =>
    obtain ⟨HCE, HCW⟩ | HCW : (Hid (cmpP x (q, 1) = 0) ∧ Hid (cmp3 (low x).2 1 = 0)) ∨ Hid (cmp3 (low x).2 1 = 1) := dist_whole HCF.out HLP.out
    · go_region_held3 (fun w' => w'.cell? ⟨b5, 0, none⟩ = some (.string ⟨#[49]⟩) ∧ w'.cell? ⟨b5, 1, none⟩ = some (.string ⟨#[]⟩) ∧ w'.cell? ⟨b2_0, 0, none⟩ = some (.string (cS D.1)) ∧ w'.cell? ⟨b2_0, 1, none⟩ = some (.string (cD D.2)) ∧ w'.cell? ⟨w.heap.size, 0, none⟩ = some (.string fn) ∧ w'.cell? ⟨w.heap.size, 1, none⟩ = some (.string fd))
        (go_keep)
        (first
        | (go_at_call 35;
             (first
               | (with_reducible refine Calls.mono (Ret.call HCK.out _ (by first | exact HS.out.g | exact HS.out.drew.g | exact (HS.out.drewN _).g)) ?_));
             (rintro e WX ⟨rfl, hB1⟩);
             (have HS2 : StL w WX [(b5, ⟨#[49]⟩, ⟨#[]⟩), (b2_0, (cS D.1), (cD D.2)), (w.heap.size, fn, fd)] := (by first | exact HS.out.next hB1 | exact HS.out.next1 hB1 | exact HS.out.nextD hB1));
             (replace HS := Lib.hid HS2);
             (clear hB1 HS2);
             (obtain ⟨fp0, fp1, fp2, _⟩ := HS.out.box);
             (obtain ⟨fx0, fy0, _, _⟩ := fp0.cells);
             (obtain ⟨fx1, fy1, _, _⟩ := fp1.cells);
             (obtain ⟨fx2, fy2, _, _⟩ := fp2.cells))
        | (go_at_call 36;
             (first
               | (with_reducible refine Calls.mono (compare_v (x := (low x).2) (y := 1) (z := 0) _ HLS.out (by decide) (vS_cS _) vS_one HCW.out) ?_));
             (rintro e WX ⟨rfl, hB1⟩);
             (have HS2 : StL w WX [(b5, ⟨#[49]⟩, ⟨#[]⟩), (b2_0, (cS D.1), (cD D.2)), (w.heap.size, fn, fd)] := (by first | exact HS.out.next hB1 | exact HS.out.next1 hB1 | exact HS.out.nextD hB1));
             (replace HS := Lib.hid HS2);
             (clear hB1 HS2);
             (obtain ⟨fp0, fp1, fp2, _⟩ := HS.out.box);
             (obtain ⟨fx0, fy0, _, _⟩ := fp0.cells);
             (obtain ⟨fx1, fy1, _, _⟩ := fp1.cells);
             (obtain ⟨fx2, fy2, _, _⟩ := fp2.cells))
        | (go_at_call 31;
             (first
               | (with_reducible refine Calls.mono (fOf_v (p := q) _ (by first | exact HS.out.g | exact HS.out.drew.g | exact (HS.out.drewN _).g) HQS.out (vS_cS _)) ?_));
             (rintro e WX ⟨rfl, hB1⟩);
             (have HS2 : StL w WX [(b5, ⟨#[49]⟩, ⟨#[]⟩), (b2_0, (cS D.1), (cD D.2)), (w.heap.size, fn, fd)] := (by first | exact HS.out.next hB1 | exact HS.out.next1 hB1 | exact HS.out.nextD hB1));
             (replace HS := Lib.hid HS2);
             (clear hB1 HS2);
             (obtain ⟨fp0, fp1, fp2, _⟩ := HS.out.box);
             (obtain ⟨fx0, fy0, _, _⟩ := fp0.cells);
             (obtain ⟨fx1, fy1, _, _⟩ := fp1.cells);
             (obtain ⟨fx2, fy2, _, _⟩ := fp2.cells))
        | (go_at_call 29;
             (first
               | (with_reducible refine Calls.mono (fCompare_v (c := 0) _ (by first | exact HS.out.g | exact HS.out.drew.g | exact (HS.out.drewN _).g) (HF.out.arg (by decide)) HQV.out HCE.out) ?_));
             (rintro e WX ⟨rfl, hB1⟩);
             (have HS2 : StL w WX [(b5, ⟨#[49]⟩, ⟨#[]⟩), (b2_0, (cS D.1), (cD D.2)), (w.heap.size, fn, fd)] := (by first | exact HS.out.next hB1 | exact HS.out.next1 hB1 | exact HS.out.nextD hB1));
             (replace HS := Lib.hid HS2);
             (clear hB1 HS2);
             (obtain ⟨fp0, fp1, fp2, _⟩ := HS.out.box);
             (obtain ⟨fx0, fy0, _, _⟩ := fp0.cells);
             (obtain ⟨fx1, fy1, _, _⟩ := fp1.cells);
             (obtain ⟨fx2, fy2, _, _⟩ := fp2.cells))
        | (go_at_call 12;
             (first
               | (with_reducible refine Calls.mono (Ret.call HAW.out _ (by first | exact HS.out.g | exact HS.out.drew.g | exact (HS.out.drewN _).g)) ?_));
             (rintro e WX ⟨rfl, hB1⟩);
             (have HS2 : StL w WX [(b5, ⟨#[49]⟩, ⟨#[]⟩), (b2_0, (cS D.1), (cD D.2)), (w.heap.size, fn, fd)] := (by first | exact HS.out.next hB1 | exact HS.out.next1 hB1 | exact HS.out.nextD hB1));
             (replace HS := Lib.hid HS2);
             (clear hB1 HS2);
             (obtain ⟨fp0, fp1, fp2, _⟩ := HS.out.box);
             (obtain ⟨fx0, fy0, _, _⟩ := fp0.cells);
             (obtain ⟨fx1, fy1, _, _⟩ := fp1.cells);
             (obtain ⟨fx2, fy2, _, _⟩ := fp2.cells)))
      all_goals go_wp2_with fail
      all_goals go_meet
      all_goals exact ⟨rfl, (by first | exact HS.out | exact HS.out.drew | exact HS.out.drewN _)⟩
    · refine wp_region_held_drew (S := fun w' => w'.cell? ⟨b5, 0, none⟩ = some (.string ⟨#[49]⟩) ∧ w'.cell? ⟨b5, 1, none⟩ = some (.string ⟨#[]⟩) ∧ w'.cell? ⟨b2_0, 0, none⟩ = some (.string (cS D.1)) ∧ w'.cell? ⟨b2_0, 1, none⟩ = some (.string (cD D.2)) ∧ w'.cell? ⟨w.heap.size, 0, none⟩ = some (.string fn) ∧ w'.cell? ⟨w.heap.size, 1, none⟩ = some (.string fd)) (by kernel_rfl) (by (try dsimp only); go_keep) (fun hHeld => ?_)
      refine wpAnyH_take (i := 0) (oi := { dst := some 75, op := Op.move (Operand.tmp 6), type := 27, pos := "law.go:111", after := #[], guard := none }) (v := ?_) rfl (by kernel_rfl) (by kernel_rfl) (by kernel_rfl) (fun _ _ _ h => h) (Or.inl ⟨by rfl, ?_⟩) (by assumption) ?_
      rotate_left
      focus ((intro w hSw; (try dsimp only at hSw); go_simp); (try with_reducible rfl))
      try simp only [Act.put, List.setIfInBounds_toArray, List.set_cons_zero, List.set_cons_succ]
      refine wpAnyH_take (i := 1) (oi := { dst := some 76, op := Op.binOp BinOp.eql 27 (Operand.tmp 75) (Operand.const (Value.int IntKind.i64 0)) 27, type := 4, pos := "law.go:111", after := #[{ on := 0, ground := Ground.data }], guard := none }) (v := ?_) rfl (by kernel_rfl) (by kernel_rfl) (by kernel_rfl) (fun _ _ _ h => h) (Or.inl ⟨by rfl, ?_⟩) (by assumption) ?_
      rotate_left
      focus ((intro w hSw; (try dsimp only at hSw); go_simp); (try with_reducible rfl))
      try simp only [Act.put, List.setIfInBounds_toArray, List.set_cons_zero, List.set_cons_succ]
      refine wpAnyH_take (i := 2) (oi := { dst := some 77, op := Op.move (Operand.tmp 76), type := 4, pos := "law.go:111", after := #[{ on := 1, ground := Ground.data }], guard := none }) (v := ?_) rfl (by kernel_rfl) (by kernel_rfl) (by kernel_rfl) (fun _ _ _ h => h) (Or.inl ⟨by rfl, ?_⟩) (by assumption) ?_
      rotate_left
      focus ((intro w hSw; (try dsimp only at hSw); go_simp); (try with_reducible rfl))
      try simp only [Act.put, List.setIfInBounds_toArray, List.set_cons_zero, List.set_cons_succ]
      refine wpAnyH_take (i := 3) (oi := { dst := some 78, op := Op.move (Operand.tmp 10), type := 27, pos := "law.go:111", after := #[{ on := 2, ground := Ground.guard }], guard := some (2, true) }) (v := ?_) rfl (by kernel_rfl) (by kernel_rfl) (by kernel_rfl) (fun _ _ _ h => h) (Or.inl ⟨by rfl, ?_⟩) (by assumption) ?_
      rotate_left
      focus ((intro w hSw; (try dsimp only at hSw); go_simp); (try with_reducible rfl))
      try simp only [Act.put, List.setIfInBounds_toArray, List.set_cons_zero, List.set_cons_succ]
      refine wpAnyH_take (i := 4) (oi := { dst := some 79, op := Op.binOp BinOp.eql 27 (Operand.tmp 78) (Operand.const (Value.int IntKind.i64 0)) 27, type := 4, pos := "law.go:111", after := #[{ on := 3, ground := Ground.data }, { on := 2, ground := Ground.guard }], guard := some (2, true) }) (v := ?_) rfl (by kernel_rfl) (by kernel_rfl) (by kernel_rfl) (fun _ _ _ h => h) (Or.inl ⟨by rfl, ?_⟩) (by assumption) ?_
      rotate_left
      focus ((intro w hSw; (try dsimp only at hSw); go_simp); (try with_reducible rfl))
      try simp only [Act.put, List.setIfInBounds_toArray, List.set_cons_zero, List.set_cons_succ]
      refine wpAnyH_take (i := 5) (oi := { dst := some 80, op := Op.pick (Operand.tmp 77) (Operand.tmp 79) (Operand.const (Value.bool false)), type := 4, pos := "law.go:111", after := #[{ on := 2, ground := Ground.data }, { on := 4, ground := Ground.data }], guard := none }) (v := ?_) rfl (by kernel_rfl) (by kernel_rfl) (by kernel_rfl) (fun _ _ _ h => h) (Or.inl ⟨by rfl, ?_⟩) (by assumption) ?_
      rotate_left
      focus ((intro w hSw; (try dsimp only at hSw); go_simp); (try with_reducible rfl))
      try simp only [Act.put, List.setIfInBounds_toArray, List.set_cons_zero, List.set_cons_succ]
      refine wpAnyH_take (i := 6) (oi := { dst := some 81, op := Op.move (Operand.tmp 80), type := 4, pos := "law.go:111", after := #[{ on := 5, ground := Ground.data }, { on := 2, ground := Ground.chain }], guard := none }) (v := ?_) rfl (by kernel_rfl) (by kernel_rfl) (by kernel_rfl) (fun _ _ _ h => h) (Or.inl ⟨by rfl, ?_⟩) (by assumption) ?_
      rotate_left
      focus ((intro w hSw; (try dsimp only at hSw); go_simp); (try with_reducible rfl))
      try simp only [Act.put, List.setIfInBounds_toArray, List.set_cons_zero, List.set_cons_succ]
      refine wpAnyH_take (i := 7) (oi := { dst := some 82, op := Op.move (Operand.tmp 11), type := 4, pos := "law.go:111", after := #[{ on := 6, ground := Ground.guard }], guard := some (6, true) }) (v := ?_) rfl (by kernel_rfl) (by kernel_rfl) (by kernel_rfl) (fun _ _ _ h => h) (Or.inl ⟨by rfl, ?_⟩) (by assumption) ?_
      rotate_left
      focus ((intro w hSw; (try dsimp only at hSw); go_simp); (try with_reducible rfl))
      try simp only [Act.put, List.setIfInBounds_toArray, List.set_cons_zero, List.set_cons_succ]
      refine wpAnyH_take (i := 8) (oi := { dst := some 83, op := Op.pick (Operand.tmp 81) (Operand.tmp 82) (Operand.const (Value.bool false)), type := 4, pos := "law.go:111", after := #[{ on := 6, ground := Ground.data }, { on := 7, ground := Ground.data }], guard := none }) (v := ?_) rfl (by kernel_rfl) (by kernel_rfl) (by kernel_rfl) (fun _ _ _ h => h) (Or.inl ⟨by rfl, ?_⟩) (by assumption) ?_
      rotate_left
      focus ((intro w hSw; (try dsimp only at hSw); go_simp); (try with_reducible rfl))
      try simp only [Act.put, List.setIfInBounds_toArray, List.set_cons_zero, List.set_cons_succ]
      refine wpAnyH_take (i := 9) (oi := { dst := some 84, op := Op.move (Operand.tmp 83), type := 4, pos := "law.go:111", after := #[{ on := 8, ground := Ground.data }, { on := 6, ground := Ground.chain }], guard := none }) (v := ?_) rfl (by kernel_rfl) (by kernel_rfl) (by kernel_rfl) (fun _ _ _ h => h) (Or.inl ⟨by rfl, ?_⟩) (by assumption) ?_
      rotate_left
      focus ((intro w hSw; (try dsimp only at hSw); go_simp); (try with_reducible rfl))
      try simp only [Act.put, List.setIfInBounds_toArray, List.set_cons_zero, List.set_cons_succ]
      refine wpAnyH_take (i := 10) (oi := { dst := some 85, op := Op.move (Operand.tmp 9), type := 22, pos := "law.go:111", after := #[{ on := 9, ground := Ground.guard }], guard := some (9, true) }) (v := ?_) rfl (by kernel_rfl) (by kernel_rfl) (by kernel_rfl) (fun _ _ _ h => h) (Or.inl ⟨by rfl, ?_⟩) (by assumption) ?_
      rotate_left
      focus ((intro w hSw; (try dsimp only at hSw); go_simp); (try with_reducible rfl))
      try simp only [Act.put, List.setIfInBounds_toArray, List.set_cons_zero, List.set_cons_succ]
      refine wpAnyH_take (i := 11) (oi := { dst := some 86, op := Op.move (Operand.tmp 5), type := 22, pos := "law.go:111", after := #[{ on := 9, ground := Ground.guard }], guard := some (9, true) }) (v := ?_) rfl (by kernel_rfl) (by kernel_rfl) (by kernel_rfl) (fun _ _ _ h => h) (Or.inl ⟨by rfl, ?_⟩) (by assumption) ?_
      rotate_left
      focus ((intro w hSw; (try dsimp only at hSw); go_simp); (try with_reducible rfl))
      try simp only [Act.put, List.setIfInBounds_toArray, List.set_cons_zero, List.set_cons_succ]
      refine wpAnyH_take (i := 12) (oi := { dst := some 87, op := Op.binOp BinOp.eql 22 (Operand.tmp 85) (Operand.tmp 86) 22, type := 4, pos := "law.go:111", after := #[{ on := 10, ground := Ground.data }, { on := 11, ground := Ground.data }, { on := 9, ground := Ground.guard }], guard := some (9, true) }) (v := ?_) rfl (by kernel_rfl) (by kernel_rfl) (by kernel_rfl) (fun _ _ _ h => h) (Or.inl ⟨by rfl, ?_⟩) (by assumption) ?_
      rotate_left
      focus ((intro w hSw; (try dsimp only at hSw); go_simp); (try with_reducible rfl))
      try simp only [Act.put, List.setIfInBounds_toArray, List.set_cons_zero, List.set_cons_succ]
      refine wpAnyH_take (i := 13) (oi := { dst := some 88, op := Op.pick (Operand.tmp 84) (Operand.tmp 87) (Operand.const (Value.bool false)), type := 4, pos := "law.go:111", after := #[{ on := 9, ground := Ground.data }, { on := 12, ground := Ground.data }], guard := none }) (v := ?_) rfl (by kernel_rfl) (by kernel_rfl) (by kernel_rfl) (fun _ _ _ h => h) (Or.inl ⟨by rfl, ?_⟩) (by assumption) ?_
      rotate_left
      focus ((intro w hSw; (try dsimp only at hSw); go_simp); (try with_reducible rfl))
      try simp only [Act.put, List.setIfInBounds_toArray, List.set_cons_zero, List.set_cons_succ]
      refine wpAnyH_take (i := 14) (oi := { dst := some 89, op := Op.move (Operand.tmp 88), type := 4, pos := "law.go:111", after := #[{ on := 13, ground := Ground.data }, { on := 9, ground := Ground.chain }], guard := none }) (v := ?_) rfl (by kernel_rfl) (by kernel_rfl) (by kernel_rfl) (fun _ _ _ h => h) (Or.inl ⟨by rfl, ?_⟩) (by assumption) ?_
      rotate_left
      focus ((intro w hSw; (try dsimp only at hSw); go_simp); (try with_reducible rfl))
      try simp only [Act.put, List.setIfInBounds_toArray, List.set_cons_zero, List.set_cons_succ]
      refine wpAnyH_take (i := 15) (oi := { dst := some 90, op := Op.move (Operand.tmp 5), type := 22, pos := "law.go:111", after := #[{ on := 14, ground := Ground.guard }], guard := some (14, true) }) (v := ?_) rfl (by kernel_rfl) (by kernel_rfl) (by kernel_rfl) (fun _ _ _ h => h) (Or.inl ⟨by rfl, ?_⟩) (by assumption) ?_
      rotate_left
      focus ((intro w hSw; (try dsimp only at hSw); go_simp); (try with_reducible rfl))
      try simp only [Act.put, List.setIfInBounds_toArray, List.set_cons_zero, List.set_cons_succ]
      refine wpAnyH_ready (rs := [16]) (by kernel_rfl) (by simp) ?_
      refine AllReadyH.cons (o := { dst := some 91, op := Op.call { callee := Callee.value (Operand.func 35), args := #[Operand.tmp 90], argTypes := #[22] }, type := 27, pos := "law.go:111", after := #[{ on := 15, ground := Ground.data }, { on := 14, ground := Ground.chain }, { on := 14, ground := Ground.guard }], guard := some (14, true) }) rfl (fun K hK => ?_) AllReadyH.nil
      clear hHeld
      go_simp
      with_reducible refine Calls.mono (Ret.call HCK.out _ (by first | exact HS.out.g | exact HS.out.drew.g | exact (HS.out.drewN _).g)) ?_
      rintro e WX ⟨rfl, hB1⟩
      (have HS2 : StL w WX [(b5, ⟨#[49]⟩, ⟨#[]⟩), (b2_0, (cS D.1), (cD D.2)), (w.heap.size, fn, fd)] := (by first | exact HS.out.next hB1 | exact HS.out.next1 hB1 | exact HS.out.nextD hB1))
      (replace HS := Lib.hid HS2)
      (clear hB1 HS2)
      (obtain ⟨fp0, fp1, fp2, _⟩ := HS.out.box)
      (obtain ⟨fx0, fy0, _, _⟩ := fp0.cells)
      (obtain ⟨fx1, fy1, _, _⟩ := fp1.cells)
      (obtain ⟨fx2, fy2, _, _⟩ := fp2.cells)
      go_wp2_with fail
      refine hK.out _ _ (by (try dsimp only); go_keep) (fun hHeld => ?_)
      clear hK K
      try simp only [Act.put, List.setIfInBounds_toArray, List.set_cons_zero, List.set_cons_succ]
      refine wpAnyH_take (i := 17) (oi := { dst := some 92, op := Op.binOp BinOp.eql 27 (Operand.tmp 91) (Operand.const (Value.int IntKind.i64 0)) 27, type := 4, pos := "law.go:111", after := #[{ on := 16, ground := Ground.data }, { on := 14, ground := Ground.guard }], guard := some (14, true) }) (v := ?_) rfl (by kernel_rfl) (by kernel_rfl) (by kernel_rfl) (fun _ _ _ h => h) (Or.inl ⟨by rfl, ?_⟩) (by assumption) ?_
      rotate_left
      focus ((intro w hSw; (try dsimp only at hSw); go_simp); (try with_reducible rfl))
      try simp only [Act.put, List.setIfInBounds_toArray, List.set_cons_zero, List.set_cons_succ]
      refine wpAnyH_take (i := 18) (oi := { dst := some 93, op := Op.pick (Operand.tmp 89) (Operand.tmp 92) (Operand.const (Value.bool false)), type := 4, pos := "law.go:111", after := #[{ on := 14, ground := Ground.data }, { on := 17, ground := Ground.data }], guard := none }) (v := ?_) rfl (by kernel_rfl) (by kernel_rfl) (by kernel_rfl) (fun _ _ _ h => h) (Or.inl ⟨by rfl, ?_⟩) (by assumption) ?_
      rotate_left
      focus ((intro w hSw; (try dsimp only at hSw); go_simp); (try with_reducible rfl))
      try simp only [Act.put, List.setIfInBounds_toArray, List.set_cons_zero, List.set_cons_succ]
      refine wpAnyH_take (i := 19) (oi := { dst := some 94, op := Op.move (Operand.tmp 93), type := 4, pos := "law.go:111", after := #[{ on := 18, ground := Ground.data }, { on := 16, ground := Ground.chain }], guard := none }) (v := ?_) rfl (by kernel_rfl) (by kernel_rfl) (by kernel_rfl) (fun _ _ _ h => h) (Or.inl ⟨by rfl, ?_⟩) (by assumption) ?_
      rotate_left
      focus ((intro w hSw; (try dsimp only at hSw); go_simp); (try with_reducible rfl))
      try simp only [Act.put, List.setIfInBounds_toArray, List.set_cons_zero, List.set_cons_succ]
      refine wpAnyH_take (i := 20) (oi := { dst := some 95, op := Op.move (Operand.tmp 13), type := 22, pos := "law.go:111", after := #[{ on := 19, ground := Ground.guard }], guard := some (19, true) }) (v := ?_) rfl (by kernel_rfl) (by kernel_rfl) (by kernel_rfl) (fun _ _ _ h => h) (Or.inl ⟨by rfl, ?_⟩) (by assumption) ?_
      rotate_left
      focus ((intro w hSw; (try dsimp only at hSw); go_simp); (try with_reducible rfl))
      try simp only [Act.put, List.setIfInBounds_toArray, List.set_cons_zero, List.set_cons_succ]
      refine wpAnyH_ready (rs := [21]) (by kernel_rfl) (by simp) ?_
      refine AllReadyH.cons (o := { dst := some 96, op := Op.call { callee := Callee.value (Operand.func 36), args := #[Operand.tmp 95, Operand.const (Value.string { data := #[49] })], argTypes := #[22, 22] }, type := 3, pos := "law.go:111", after := #[{ on := 20, ground := Ground.data }, { on := 19, ground := Ground.chain }, { on := 19, ground := Ground.guard }], guard := some (19, true) }) rfl (fun K hK => ?_) AllReadyH.nil
      clear hHeld
      go_simp
      with_reducible refine Calls.mono (compare_v (x := (low x).2) (y := 1) (z := 1) _ HLS.out (by decide) (vS_cS _) vS_one HCW.out) ?_
      rintro e WX ⟨rfl, hB1⟩
      (have HS2 : StL w WX [(b5, ⟨#[49]⟩, ⟨#[]⟩), (b2_0, (cS D.1), (cD D.2)), (w.heap.size, fn, fd)] := (by first | exact HS.out.next hB1 | exact HS.out.next1 hB1 | exact HS.out.nextD hB1))
      (replace HS := Lib.hid HS2)
      (clear hB1 HS2)
      (obtain ⟨fp0, fp1, fp2, _⟩ := HS.out.box)
      (obtain ⟨fx0, fy0, _, _⟩ := fp0.cells)
      (obtain ⟨fx1, fy1, _, _⟩ := fp1.cells)
      (obtain ⟨fx2, fy2, _, _⟩ := fp2.cells)
      go_wp2_with fail
      refine hK.out _ _ (by (try dsimp only); go_keep) (fun hHeld => ?_)
      clear hK K
      try simp only [Act.put, List.setIfInBounds_toArray, List.set_cons_zero, List.set_cons_succ]
      refine wpAnyH_take (i := 22) (oi := { dst := some 97, op := Op.binOp BinOp.neq 3 (Operand.tmp 96) (Operand.const (Value.int IntKind.i64 0)) 3, type := 4, pos := "law.go:111", after := #[{ on := 21, ground := Ground.data }, { on := 19, ground := Ground.guard }], guard := some (19, true) }) (v := ?_) rfl (by kernel_rfl) (by kernel_rfl) (by kernel_rfl) (fun _ _ _ h => h) (Or.inl ⟨by rfl, ?_⟩) (by assumption) ?_
      rotate_left
      focus ((intro w hSw; (try dsimp only at hSw); go_simp); (try with_reducible rfl))
      try simp only [Act.put, List.setIfInBounds_toArray, List.set_cons_zero, List.set_cons_succ]
      refine wpAnyH_take (i := 23) (oi := { dst := some 98, op := Op.move (Operand.tmp 97), type := 4, pos := "law.go:111", after := #[{ on := 22, ground := Ground.data }, { on := 21, ground := Ground.chain }, { on := 19, ground := Ground.guard }], guard := some (19, true) }) (v := ?_) rfl (by kernel_rfl) (by kernel_rfl) (by kernel_rfl) (fun _ _ _ h => h) (Or.inl ⟨by rfl, ?_⟩) (by assumption) ?_
      rotate_left
      focus ((intro w hSw; (try dsimp only at hSw); go_simp); (try with_reducible rfl))
      try simp only [Act.put, List.setIfInBounds_toArray, List.set_cons_zero, List.set_cons_succ]
      refine wpAnyH_take (i := 24) (oi := { dst := some 99, op := Op.load 24 (Operand.tmp 2), type := 24, pos := "law.go:111", after := #[{ on := 23, ground := Ground.guard }], guard := some (23, false) }) (v := undef) rfl (by kernel_rfl) (by kernel_rfl) (by kernel_rfl) (fun _ _ _ h => h) (Or.inr ⟨by rfl, rfl⟩) (by assumption) ?_
      try simp only [Act.put, List.setIfInBounds_toArray, List.set_cons_zero, List.set_cons_succ]
      refine wpAnyH_take (i := 25) (oi := { dst := some 100, op := Op.move (Operand.tmp 5), type := 22, pos := "law.go:111", after := #[{ on := 23, ground := Ground.guard }], guard := some (23, false) }) (v := undef) rfl (by kernel_rfl) (by kernel_rfl) (by kernel_rfl) (fun _ _ _ h => h) (Or.inr ⟨by rfl, rfl⟩) (by assumption) ?_
      try simp only [Act.put, List.setIfInBounds_toArray, List.set_cons_zero, List.set_cons_succ]
      refine wpAnyH_take (i := 26) (oi := { dst := some 101, op := Op.call { callee := Callee.value (Operand.func 31), args := #[Operand.tmp 100], argTypes := #[22] }, type := 24, pos := "law.go:111", after := #[{ on := 25, ground := Ground.data }, { on := 23, ground := Ground.chain }, { on := 23, ground := Ground.guard }], guard := some (23, false) }) (v := undef) rfl (by kernel_rfl) (by kernel_rfl) (by kernel_rfl) (fun _ _ _ h => h) (Or.inr ⟨by rfl, rfl⟩) (by assumption) ?_
      try simp only [Act.put, List.setIfInBounds_toArray, List.set_cons_zero, List.set_cons_succ]
      refine wpAnyH_take (i := 27) (oi := { dst := some 102, op := Op.call { callee := Callee.value (Operand.func 29), args := #[Operand.tmp 99, Operand.tmp 101], argTypes := #[24, 24] }, type := 3, pos := "law.go:111", after := #[{ on := 24, ground := Ground.data }, { on := 26, ground := Ground.data }, { on := 26, ground := Ground.chain }, { on := 23, ground := Ground.guard }], guard := some (23, false) }) (v := undef) rfl (by kernel_rfl) (by kernel_rfl) (by kernel_rfl) (fun _ _ _ h => h) (Or.inr ⟨by rfl, rfl⟩) (by assumption) ?_
      try simp only [Act.put, List.setIfInBounds_toArray, List.set_cons_zero, List.set_cons_succ]
      refine wpAnyH_take (i := 28) (oi := { dst := some 103, op := Op.binOp BinOp.eql 3 (Operand.tmp 102) (Operand.const (Value.int IntKind.i64 0)) 3, type := 4, pos := "law.go:111", after := #[{ on := 27, ground := Ground.data }, { on := 23, ground := Ground.guard }], guard := some (23, false) }) (v := undef) rfl (by kernel_rfl) (by kernel_rfl) (by kernel_rfl) (fun _ _ _ h => h) (Or.inr ⟨by rfl, rfl⟩) (by assumption) ?_
      try simp only [Act.put, List.setIfInBounds_toArray, List.set_cons_zero, List.set_cons_succ]
      refine wpAnyH_take (i := 29) (oi := { dst := some 104, op := Op.pick (Operand.tmp 98) (Operand.const (Value.bool true)) (Operand.tmp 103), type := 4, pos := "law.go:111", after := #[{ on := 23, ground := Ground.data }, { on := 28, ground := Ground.data }, { on := 19, ground := Ground.guard }], guard := some (19, true) }) (v := ?_) rfl (by kernel_rfl) (by kernel_rfl) (by kernel_rfl) (fun _ _ _ h => h) (Or.inl ⟨by rfl, ?_⟩) (by assumption) ?_
      rotate_left
      focus ((intro w hSw; (try dsimp only at hSw); go_simp); (try with_reducible rfl))
      try simp only [Act.put, List.setIfInBounds_toArray, List.set_cons_zero, List.set_cons_succ]
      refine wpAnyH_take (i := 30) (oi := { dst := some 105, op := Op.pick (Operand.tmp 94) (Operand.tmp 104) (Operand.const (Value.bool false)), type := 4, pos := "law.go:111", after := #[{ on := 19, ground := Ground.data }, { on := 29, ground := Ground.data }], guard := none }) (v := ?_) rfl (by kernel_rfl) (by kernel_rfl) (by kernel_rfl) (fun _ _ _ h => h) (Or.inl ⟨by rfl, ?_⟩) (by assumption) ?_
      rotate_left
      focus ((intro w hSw; (try dsimp only at hSw); go_simp); (try with_reducible rfl))
      try simp only [Act.put, List.setIfInBounds_toArray, List.set_cons_zero, List.set_cons_succ]
      refine wpAnyH_take (i := 31) (oi := { dst := some 106, op := Op.move (Operand.tmp 105), type := 4, pos := "law.go:111", after := #[{ on := 30, ground := Ground.data }, { on := 27, ground := Ground.chain }], guard := none }) (v := ?_) rfl (by kernel_rfl) (by kernel_rfl) (by kernel_rfl) (fun _ _ _ h => h) (Or.inl ⟨by rfl, ?_⟩) (by assumption) ?_
      rotate_left
      focus ((intro w hSw; (try dsimp only at hSw); go_simp); (try with_reducible rfl))
      try simp only [Act.put, List.setIfInBounds_toArray, List.set_cons_zero, List.set_cons_succ]
      refine wpAnyH_ready (rs := [32]) (by kernel_rfl) (by simp) ?_
      refine AllReadyH.cons (o := { dst := some 107, op := Op.call { callee := Callee.value (Operand.func 12), args := #[], argTypes := #[] }, type := 4, pos := "law.go:111", after := #[{ on := 31, ground := Ground.chain }, { on := 31, ground := Ground.guard }], guard := some (31, true) }) rfl (fun K hK => ?_) AllReadyH.nil
      clear hHeld
      go_simp
      with_reducible refine Calls.mono (Ret.call HAW.out _ (by first | exact HS.out.g | exact HS.out.drew.g | exact (HS.out.drewN _).g)) ?_
      rintro e WX ⟨rfl, hB1⟩
      (have HS2 : StL w WX [(b5, ⟨#[49]⟩, ⟨#[]⟩), (b2_0, (cS D.1), (cD D.2)), (w.heap.size, fn, fd)] := (by first | exact HS.out.next hB1 | exact HS.out.next1 hB1 | exact HS.out.nextD hB1))
      (replace HS := Lib.hid HS2)
      (clear hB1 HS2)
      (obtain ⟨fp0, fp1, fp2, _⟩ := HS.out.box)
      (obtain ⟨fx0, fy0, _, _⟩ := fp0.cells)
      (obtain ⟨fx1, fy1, _, _⟩ := fp1.cells)
      (obtain ⟨fx2, fy2, _, _⟩ := fp2.cells)
      go_wp2_with fail
      refine hK.out _ _ (by (try dsimp only); go_keep) (fun hHeld => ?_)
      clear hK K
      try simp only [Act.put, List.setIfInBounds_toArray, List.set_cons_zero, List.set_cons_succ]
      refine wpAnyH_take (i := 33) (oi := { dst := some 108, op := Op.pick (Operand.tmp 106) (Operand.tmp 107) (Operand.const (Value.bool false)), type := 4, pos := "law.go:111", after := #[{ on := 31, ground := Ground.data }, { on := 32, ground := Ground.data }], guard := none }) (v := ?_) rfl (by kernel_rfl) (by kernel_rfl) (by kernel_rfl) (fun _ _ _ h => h) (Or.inl ⟨by rfl, ?_⟩) (by assumption) ?_
      rotate_left
      focus ((intro w hSw; (try dsimp only at hSw); go_simp); (try with_reducible rfl))
      try simp only [Act.put, List.setIfInBounds_toArray, List.set_cons_zero, List.set_cons_succ]
      refine wpAnyH_take (i := 34) (oi := { dst := some 4, op := Op.assign (Operand.tmp 108), type := 4, pos := "law.go:111", after := #[{ on := 33, ground := Ground.data }, { on := 32, ground := Ground.chain }, { on := 0, ground := Ground.phase }, { on := 1, ground := Ground.phase }, { on := 2, ground := Ground.phase }, { on := 3, ground := Ground.phase }, { on := 4, ground := Ground.phase }, { on := 5, ground := Ground.phase }, { on := 6, ground := Ground.phase }, { on := 7, ground := Ground.phase }, { on := 8, ground := Ground.phase }, { on := 9, ground := Ground.phase }, { on := 10, ground := Ground.phase }, { on := 11, ground := Ground.phase }, { on := 12, ground := Ground.phase }, { on := 13, ground := Ground.phase }, { on := 14, ground := Ground.phase }, { on := 15, ground := Ground.phase }, { on := 16, ground := Ground.phase }, { on := 17, ground := Ground.phase }, { on := 18, ground := Ground.phase }, { on := 19, ground := Ground.phase }, { on := 20, ground := Ground.phase }, { on := 21, ground := Ground.phase }, { on := 22, ground := Ground.phase }, { on := 23, ground := Ground.phase }, { on := 24, ground := Ground.phase }, { on := 25, ground := Ground.phase }, { on := 26, ground := Ground.phase }, { on := 27, ground := Ground.phase }, { on := 28, ground := Ground.phase }, { on := 29, ground := Ground.phase }, { on := 30, ground := Ground.phase }, { on := 31, ground := Ground.phase }, { on := 32, ground := Ground.phase }, { on := 33, ground := Ground.phase }], guard := none }) (v := ?_) rfl (by kernel_rfl) (by kernel_rfl) (by kernel_rfl) (fun _ _ _ h => h) (Or.inl ⟨by rfl, ?_⟩) (by assumption) ?_
      rotate_left
      focus ((intro w hSw; (try dsimp only at hSw); go_simp); (try with_reducible rfl))
      try simp only [Act.put, List.setIfInBounds_toArray, List.set_cons_zero, List.set_cons_succ]
      refine wpAnyH_done (by kernel_rfl) ?_ _
      clear hHeld
      all_goals go_wp2_with fail
      all_goals go_meet
      all_goals exact ⟨rfl, (by first | exact HS.out | exact HS.out.drew | exact HS.out.drewN _)⟩
  clear HS
  clear fp0 fx0 fy0 fp1 fx1 fy1 fp2 fx2 fy2
  obtain ⟨rfl, hS⟩ := hcut
  obtain ⟨w11, hw⟩ : ∃ W, W = wc := ⟨_, rfl⟩
  rw [← hw] at hS
  rw [← hw]
  clear hw
  go_wp2_with fail
  go_ret
  exact ⟨rfl, hS.below⟩

end Go.Proofs.YtlonbfddhfacmaaGreatDoor
