/- The reference implementation of layer 3: RoundTo, Round, Scale, Format: the walks. -/
import Derived.Test.YthhihdihkddakaaGreatDoorZShG
import Derived.Test.YthhihdihkddakaaGreatDoorZShM
import Derived.Deep.DeepCutAuto
import Derived.Laws.NewBlocks
import Init
namespace Go.Proofs.YthhihdihkddakaaGreatDoor
open Go.RowKit Fra

set_option maxRecDepth 100000 in
set_option maxHeartbeats 16000000 in
theorem kRoundTo_r {fn fd : ByteArray} {m z : Int} (hn : fn.size ≤ 300) (hd : fd.size ≤ 300) (h1 : 1 ≤ m) (h6 : m ≤ 6) (h0 : rest (raw fn fd) ≠ 0) (hz : rnd m (raw fn fd) = z) : Ret 127 #[.agg #[.string fn, .string fd], .int .i64 m] (.string (cS z)) := by
  intro w hG
  obtain ⟨x, hx⟩ : ∃ x, raw fn fd = x := ⟨_, rfl⟩
  have hxp : 0 < x.2 := by rw [← hx]; exact raw_pos _ _
  have hcx : CapP 300 x := by rw [← hx]; exact CapP.of_raw (by decide) hn hd
  obtain ⟨q, hq⟩ : ∃ q, Int.fdiv x.1 x.2 = q := ⟨_, rfl⟩
  have hcq : Cap 301 q := by rw [← hq]; exact Cap.fdiv' hcx.1 hxp
  have hqs : (cS q).size ≤ 302 := cS_size hcq
  have hrq : raw (cS q) ⟨#[]⟩ = (q, 1) := by unfold raw; rw [vS_cS, vS_nil]; rfl
  obtain ⟨D, hD⟩ : ∃ D, addP x (negP (q, 1)) = D := ⟨_, rfl⟩
  have hDp : 0 < D.2 := by rw [← hD]; exact addP_pos hxp (negP_pos (x := (q, 1)) Int.one_pos)
  have hDs : (cS D.1).size ≤ 400 ∧ (cD D.2).size ≤ 400 := by
    have h1 : Same D (rest x, x.2) := by rw [← hD, ← hq]; exact rest_same
    have h2 := rest_bounds hxp
    have h3 : D = low (rest x, x.2) := by
      have h4 : Low D := by rw [← hD]; exact Low.of_addP hxp (negP_pos (x := (q, 1)) Int.one_pos)
      rw [← h4.eq]
      exact low_eq hDp hxp h1
    have h5 : CapP 300 (low (rest x, x.2)) := CapP.low ⟨by have := hcx.2; unfold Cap at *; omega, hcx.2⟩ hxp
    rw [h3]
    have h6 := cS_size h5.1
    have h7 := cD_size h5.2
    omega
  have HFL := Lib.hid (show Ret 52 #[.agg #[.string fn, .string fd]] (.string (cS q)) from fun W hW => by have := qFloor_any fn fd W hW (by omega) (by omega); rwa [hx, hq] at this)
  have HOQ := Lib.hid (show Ret 54 #[.string (cS q)] (.agg #[.string (cS q), .string ⟨#[]⟩]) from fun W _ => qOf_any W (by omega) (vS_cS q))
  have HSU := Lib.hid (show Ret 53 #[.agg #[.string fn, .string fd], .agg #[.string (cS q), .string ⟨#[]⟩]] (.agg #[.string (cS D.1), .string (cD D.2)]) from fun W hW => by
    have h := qSub_any fn fd (cS q) ⟨#[]⟩ W hW (by omega) (by omega) (by omega) (by decide)
    rw [hx, hrq, hD] at h
    exact h)
  have HOZ := Lib.hid (show Ret 54 #[.string ⟨#[]⟩] (.agg #[.string ⟨#[]⟩, .string ⟨#[]⟩]) from fun W _ => by
    have h := qOf_any (a := ⟨#[]⟩) (x := 0) W (by decide) vS_nil
    rwa [cS_zero] at h)
  have hrD : raw (cS D.1) (cD D.2) = D := raw_can hDp
  have e0 : cmpP D (0, 1) = cmp3 (rest x) 0 := by rw [← hD, ← hq]; exact rest_cmp0 hxp
  have HC0 := Lib.hid (show Ret 58 #[.agg #[.string (cS D.1), .string (cD D.2)], .agg #[.string ⟨#[]⟩, .string ⟨#[]⟩]] (.int .i64 (cmp3 (rest x) 0)) from fun W hW => by
    have h := qCompare_any (cS D.1) (cD D.2) ⟨#[]⟩ ⟨#[]⟩ W hW hDs.1 hDs.2 (by decide) (by decide)
    rw [hrD, raw_nil, e0] at h
    exact h)
  rw [hx] at h0 hz
  have hrb := rest_bounds hxp
  have HZ := Lib.hid (show cmp3 (rest x) 0 = 1 from cmp3_gt (by omega))
  have HNX := Lib.hid (show Ret 59 #[.string (cS q), .string ⟨#[49]⟩] (.string (cS (q + 1))) from fun W _ => qAdd W (by omega) (by decide) (vS_cS q) vS_one rfl)
  have HHF := Lib.hid (show Ret 63 #[.string ⟨#[49]⟩, .string ⟨#[50]⟩] (fraE ⟨#[49]⟩ ⟨#[50]⟩ 0) from fun W hW => by
    have h := qNew_any (n := ⟨#[49]⟩) (d := ⟨#[50]⟩) (x := 1) (y := 2) W hW (by decide) (by decide) (by decide +kernel) (by decide +kernel) (by decide)
    rw [show cS (redS 1 2).1 = ⟨#[49]⟩ by decide +kernel, show cD (redS 1 2).2 = ⟨#[50]⟩ by decide +kernel] at h
    exact h)
  obtain ⟨c, hc⟩ : ∃ c, cmp3 (2 * rest x) x.2 = c := ⟨_, rfl⟩
  obtain ⟨cn, hcn⟩ : ∃ c, cmpP x (0, 1) = c := ⟨_, rfl⟩
  have e2 : cmpP D (1, 2) = c := by rw [← hD, ← hq, rest_cmp2 hxp]; exact hc
  have HCH := Lib.hid (show Ret 58 #[.agg #[.string (cS D.1), .string (cD D.2)], .agg #[.string ⟨#[49]⟩, .string ⟨#[50]⟩]] (.int .i64 c) from fun W hW => by
    have h := qCompare_any (cS D.1) (cD D.2) ⟨#[49]⟩ ⟨#[50]⟩ W hW hDs.1 hDs.2 (by decide) (by decide)
    rw [hrD, show raw ⟨#[49]⟩ ⟨#[50]⟩ = (1, 2) by decide +kernel, e2] at h
    exact h)
  have HCN := Lib.hid (show Ret 58 #[.agg #[.string fn, .string fd], .agg #[.string ⟨#[]⟩, .string ⟨#[]⟩]] (.int .i64 cn) from fun W hW => by
    have h := qCompare_any fn fd ⟨#[]⟩ ⟨#[]⟩ W hW (by omega) (by omega) (by decide) (by decide)
    rw [hx, raw_nil, hcn] at h
    exact h)
  have HQS := Lib.hid (show (cS q).size ≤ 4294967296 by omega)
  have hsg : cn < 0 ↔ q < 0 := by rw [← hcn, ← hq, cmpP_zero]; exact floor_sign hxp
  have HW := Lib.hid (round_ways (z := z) h0 h1 h6 hc hsg (by rw [← hq]; exact hz))
  clear hn hd hx hxp hcx hq hcq hqs hrq hD hDp hDs hrD h0 hz hrb hc hcn h1 h6 hsg
  obtain ⟨W0, hW0⟩ : ∃ W0, W0 = w.alloc (.cells #[.string fn, .string fd] 36) := ⟨_, rfl⟩
  have hS : StL w W0 [(w.heap.size, fn, fd)] := by rw [hW0]; exact StL.one hG _ _
  go_enter Tryz.func127, Tryz.ntmps127
  go_upto_region 1 with fail
  rw [← hW0]
  clear hW0
  obtain ⟨fp0, _⟩ := hS.box
  obtain ⟨fx0, fy0, _, _⟩ := fp0.cells
  go_wp2_with fail
  clear fp0 fx0 fy0
  refine Calls.mono (Ret.call HFL.out _ hS.g) ?_
  rintro _ w1 ⟨rfl, hB⟩
  replace hS := hS.next hB
  clear hB
  obtain ⟨fp0, _⟩ := hS.box
  obtain ⟨fx0, fy0, _, _⟩ := fp0.cells
  go_upto_region 2 with fail
  clear fp0 fx0 fy0
  obtain ⟨fp0, _⟩ := hS.box
  obtain ⟨fx0, fy0, _, _⟩ := fp0.cells
  try go_upto_region 2 with fail
  have HS := Lib.hid hS
  clear hS
  have hne0 : w1.heap.size ≠ w.heap.size := World.new_ne w1 _ fx0
  have hle0_0 : w.heap.size < w1.heap.size := fp0.lt
  go_cut [6] (fun s6 wx => ∃ b1_0 : Nat, s6 = .pointer (some ⟨b1_0, 0, none⟩) ∧ StL w wx [(b1_0, (cS D.1), (cD D.2)), (w.heap.size, fn, fd)])
  case first =>
    go_region_held3 (fun w' => w'.cell? ⟨w.heap.size, 0, none⟩ = some (.string fn) ∧ w'.cell? ⟨w.heap.size, 1, none⟩ = some (.string fd))
      (go_keep)
      (first
    | (go_at_call 54;
         (with_reducible refine Calls.mono (Ret.call HOQ.out _ (by first | exact HS.out.g | exact HS.out.drew.g | exact (HS.out.drewN _).g | exact (HS.out.other _).g | exact (HS.out.drew.other _).g | exact (HS.out.other _).drew.g | exact ((HS.out.other _).other _).g | exact ((HS.out.drew.other _).other _).g | exact ((HS.out.other _).other _).drew.g | exact ((HS.out.drew.other _).drew.other _).g | exact ((HS.out.other _).drew.other _).g)) ?_);
         (rintro e X1_1 ⟨rfl, hB1⟩);
         (first
           | ((have HS2 : StL w X1_1 ([(w.heap.size, fn, fd)]) := (by first | exact HS.out.next hB1 | exact HS.out.next1 hB1 | exact HS.out.nextD hB1 | exact (HS.out.alloc _ _).next hB1 | exact (HS.out.drew.alloc _ _).next hB1 | exact (HS.out.alloc _ _).drew.next hB1 | exact (HS.out.alloc2 _ _ _ _).next hB1 | exact (HS.out.drew.alloc2 _ _ _ _).next hB1 | exact (HS.out.alloc2 _ _ _ _).drew.next hB1)); (replace HS := Lib.hid HS2); (clear HS2); (obtain ⟨fp0, _⟩ := HS.out.box); (obtain ⟨fx0, fy0, _, _⟩ := fp0.cells); (have hle0_1 : w.heap.size < X1_1.heap.size := fp0.lt))
           | ((have HS2 : StL w X1_1 ((w1.heap.size, ⟨#[]⟩, ⟨#[]⟩) :: [(w.heap.size, fn, fd)]) := (by first | exact HS.out.next hB1 | exact HS.out.next1 hB1 | exact HS.out.nextD hB1 | exact (HS.out.alloc _ _).next hB1 | exact (HS.out.drew.alloc _ _).next hB1 | exact (HS.out.alloc _ _).drew.next hB1 | exact (HS.out.alloc2 _ _ _ _).next hB1 | exact (HS.out.drew.alloc2 _ _ _ _).next hB1 | exact (HS.out.alloc2 _ _ _ _).drew.next hB1)); (replace HS := Lib.hid HS2); (clear HS2); (obtain ⟨pn0, fp0, _⟩ := HS.out.box); (obtain ⟨nx0, ny0, nz0, nw0⟩ := pn0.cells); (have hnp0 : X1_1.heap.size ≠ w1.heap.size := World.new_ne _ _ nx0); (have hnq0 : w1.heap.size < X1_1.heap.size := pn0.lt); (obtain ⟨fx0, fy0, _, _⟩ := fp0.cells); (have hle0_1 : w.heap.size < X1_1.heap.size := fp0.lt); (have hnr0_0 : w1.heap.size ≠ w.heap.size := (by omega))));
         (clear hB1);
         (have hne0 : X1_1.heap.size ≠ w.heap.size := World.new_ne X1_1 _ fx0))
    | (go_at_call 53;
         (with_reducible refine Calls.mono (Ret.call HSU.out _ (by first | exact HS.out.g | exact HS.out.drew.g | exact (HS.out.drewN _).g | exact (HS.out.other _).g | exact (HS.out.drew.other _).g | exact (HS.out.other _).drew.g | exact ((HS.out.other _).other _).g | exact ((HS.out.drew.other _).other _).g | exact ((HS.out.other _).other _).drew.g | exact ((HS.out.drew.other _).drew.other _).g | exact ((HS.out.other _).drew.other _).g)) ?_);
         (rintro e X1_2 ⟨rfl, hB1⟩);
         (first
           | ((have HS2 : StL w X1_2 ([(w.heap.size, fn, fd)]) := (by first | exact HS.out.next hB1 | exact HS.out.next1 hB1 | exact HS.out.nextD hB1 | exact (HS.out.alloc _ _).next hB1 | exact (HS.out.drew.alloc _ _).next hB1 | exact (HS.out.alloc _ _).drew.next hB1 | exact (HS.out.alloc2 _ _ _ _).next hB1 | exact (HS.out.drew.alloc2 _ _ _ _).next hB1 | exact (HS.out.alloc2 _ _ _ _).drew.next hB1)); (replace HS := Lib.hid HS2); (clear HS2); (obtain ⟨fp0, _⟩ := HS.out.box); (obtain ⟨fx0, fy0, _, _⟩ := fp0.cells); (have hle0_2 : w.heap.size < X1_2.heap.size := fp0.lt))
           | ((have HS2 : StL w X1_2 ((X1_1.heap.size, ⟨#[]⟩, ⟨#[]⟩) :: [(w.heap.size, fn, fd)]) := (by first | exact HS.out.next hB1 | exact HS.out.next1 hB1 | exact HS.out.nextD hB1 | exact (HS.out.alloc _ _).next hB1 | exact (HS.out.drew.alloc _ _).next hB1 | exact (HS.out.alloc _ _).drew.next hB1 | exact (HS.out.alloc2 _ _ _ _).next hB1 | exact (HS.out.drew.alloc2 _ _ _ _).next hB1 | exact (HS.out.alloc2 _ _ _ _).drew.next hB1)); (replace HS := Lib.hid HS2); (clear HS2); (obtain ⟨pn0, fp0, _⟩ := HS.out.box); (obtain ⟨nx0, ny0, nz0, nw0⟩ := pn0.cells); (have hnp0 : X1_2.heap.size ≠ X1_1.heap.size := World.new_ne _ _ nx0); (have hnq0 : X1_1.heap.size < X1_2.heap.size := pn0.lt); (obtain ⟨fx0, fy0, _, _⟩ := fp0.cells); (have hle0_2 : w.heap.size < X1_2.heap.size := fp0.lt); (have hnr0_0 : X1_1.heap.size ≠ w.heap.size := (by omega)))
           | ((have HS2 : StL w X1_2 ((w1.heap.size, ⟨#[]⟩, ⟨#[]⟩) :: [(w.heap.size, fn, fd)]) := (by first | exact HS.out.next hB1 | exact HS.out.next1 hB1 | exact HS.out.nextD hB1 | exact (HS.out.alloc _ _).next hB1 | exact (HS.out.drew.alloc _ _).next hB1 | exact (HS.out.alloc _ _).drew.next hB1 | exact (HS.out.alloc2 _ _ _ _).next hB1 | exact (HS.out.drew.alloc2 _ _ _ _).next hB1 | exact (HS.out.alloc2 _ _ _ _).drew.next hB1)); (replace HS := Lib.hid HS2); (clear HS2); (obtain ⟨pn0, fp0, _⟩ := HS.out.box); (obtain ⟨nx0, ny0, nz0, nw0⟩ := pn0.cells); (have hnp0 : X1_2.heap.size ≠ w1.heap.size := World.new_ne _ _ nx0); (have hnq0 : w1.heap.size < X1_2.heap.size := pn0.lt); (obtain ⟨fx0, fy0, _, _⟩ := fp0.cells); (have hle0_2 : w.heap.size < X1_2.heap.size := fp0.lt); (have hnr0_0 : w1.heap.size ≠ w.heap.size := (by omega))));
         (clear hB1);
         (have hne0 : X1_2.heap.size ≠ w.heap.size := World.new_ne X1_2 _ fx0)))
    all_goals go_wp2_with fail
    all_goals go_meet
    all_goals refine ⟨_, rfl, ?_⟩
    all_goals first
      | with_reducible exact HS.out.alloc _ _
      | with_reducible exact StL.fill hG HS.out _ _
      | with_reducible exact (HS.out.alloc _ _).drew
      | with_reducible exact HS.out.drew.alloc _ _
      | with_reducible exact StL.fill hG HS.out.drew _ _
      | with_reducible exact (HS.out.drew.alloc _ _).drew
  clear HS hne0 hle0_0
  clear fp0 fx0 fy0
  obtain ⟨b1_0, rfl, hS⟩ := hcut
  obtain ⟨w2, hw⟩ : ∃ W, W = wc := ⟨_, rfl⟩
  rw [← hw] at hS
  rw [← hw]
  clear hw
  obtain ⟨fp0, fp1, _⟩ := hS.box
  obtain ⟨fx0, fy0, _, _⟩ := fp0.cells
  obtain ⟨fx1, fy1, _, _⟩ := fp1.cells
  go_wp2_with fail
  clear fp0 fx0 fy0 fp1 fx1 fy1
  refine Calls.mono (Ret.call HOZ.out _ hS.g) ?_
  rintro _ w3 ⟨rfl, hB⟩
  replace hS := hS.next hB
  clear hB
  go_upto_region 4 with fail
  obtain ⟨b4, hb4⟩ : ∃ b, b = w3.heap.size := ⟨_, rfl⟩
  obtain ⟨V4, hV4⟩ : ∃ V, V = w3.alloc (.cells #[.string ⟨#[]⟩, .string ⟨#[]⟩] 36) := ⟨_, rfl⟩
  have hT : StL w V4 [(b4, ⟨#[]⟩, ⟨#[]⟩), (b1_0, (cS D.1), (cD D.2)), (w.heap.size, fn, fd)] := by rw [hV4, hb4]; exact hS.alloc _ _
  rw [← hb4, ← hV4]
  clear hV4 hb4 hS
  have hS := hT
  clear hT
  obtain ⟨fp0, fp1, fp2, _⟩ := hS.box
  obtain ⟨fx0, fy0, _, _⟩ := fp0.cells
  obtain ⟨fx1, fy1, _, _⟩ := fp1.cells
  obtain ⟨fx2, fy2, _, _⟩ := fp2.cells
  go_wp2_with fail
  clear fp0 fx0 fy0 fp1 fx1 fy1 fp2 fx2 fy2
  refine Calls.mono (Ret.call HC0.out _ hS.g) ?_
  rintro _ w5 ⟨rfl, hB⟩
  replace hS := hS.next hB
  clear hB
  rw [HZ.out]
  obtain ⟨fp0, fp1, fp2, _⟩ := hS.box
  obtain ⟨fx0, fy0, _, _⟩ := fp0.cells
  obtain ⟨fx1, fy1, _, _⟩ := fp1.cells
  obtain ⟨fx2, fy2, _, _⟩ := fp2.cells
  go_wp2_with fail
  clear fp0 fx0 fy0 fp1 fx1 fy1 fp2 fx2 fy2
  refine Calls.mono (Ret.call HNX.out _ hS.g) ?_
  rintro _ w6 ⟨rfl, hB⟩
  replace hS := hS.next hB
  clear hB
  obtain ⟨fp0, fp1, fp2, _⟩ := hS.box
  obtain ⟨fx0, fy0, _, _⟩ := fp0.cells
  obtain ⟨fx1, fy1, _, _⟩ := fp1.cells
  obtain ⟨fx2, fy2, _, _⟩ := fp2.cells
  go_wp2_with fail
  clear fp0 fx0 fy0 fp1 fx1 fy1 fp2 fx2 fy2
  refine Calls.mono (Ret.call HHF.out _ hS.g) ?_
  rintro _ w7 ⟨rfl, hB⟩
  replace hS := hS.next hB
  clear hB
  go_upto_region 8 with fail
  obtain ⟨b8, hb8⟩ : ∃ b, b = w7.heap.size := ⟨_, rfl⟩
  obtain ⟨V8, hV8⟩ : ∃ V, V = w7.alloc (.cells #[.string ⟨#[49]⟩, .string ⟨#[50]⟩] 36) := ⟨_, rfl⟩
  have hT : StL w V8 [(b8, ⟨#[49]⟩, ⟨#[50]⟩), (b4, ⟨#[]⟩, ⟨#[]⟩), (b1_0, (cS D.1), (cD D.2)), (w.heap.size, fn, fd)] := by rw [hV8, hb8]; exact hS.alloc _ _
  rw [← hb8, ← hV8]
  clear hV8 hb8 hS
  have hS := hT
  clear hT
  obtain ⟨fp0, fp1, fp2, fp3, _⟩ := hS.box
  obtain ⟨fx0, fy0, _, _⟩ := fp0.cells
  obtain ⟨fx1, fy1, _, _⟩ := fp1.cells
  obtain ⟨fx2, fy2, _, _⟩ := fp2.cells
  obtain ⟨fx3, fy3, _, _⟩ := fp3.cells
  go_wp2_with fail
  clear fp0 fx0 fy0 fp1 fx1 fy1 fp2 fx2 fy2 fp3 fx3 fy3
  refine Calls.mono (Ret.call HCH.out _ hS.g) ?_
  rintro _ w9 ⟨rfl, hB⟩
  replace hS := hS.next hB
  clear hB
  obtain ⟨fp0, fp1, fp2, fp3, _⟩ := hS.box
  obtain ⟨fx0, fy0, _, _⟩ := fp0.cells
  obtain ⟨fx1, fy1, _, _⟩ := fp1.cells
  obtain ⟨fx2, fy2, _, _⟩ := fp2.cells
  obtain ⟨fx3, fy3, _, _⟩ := fp3.cells
  go_wp2_with fail
  clear fp0 fx0 fy0 fp1 fx1 fy1 fp2 fx2 fy2 fp3 fx3 fy3
  refine Calls.mono (Ret.call HCN.out _ hS.g) ?_
  rintro _ w10 ⟨rfl, hB⟩
  replace hS := hS.next hB
  clear hB
  have HWo := HW.out
  clear HW
  rcases HWo with ⟨rfl, h2, rfl⟩ | ⟨rfl, ⟨rfl, h2⟩, rfl⟩ | ⟨rfl, ⟨rfl, h2⟩, rfl⟩ | ⟨rfl, h2, rfl⟩ | ⟨rfl, h2, rfl⟩ | ⟨rfl, ⟨rfl, h2⟩, rfl⟩ | ⟨rfl, ⟨rfl, h2⟩, rfl⟩ | ⟨rfl, h2, rfl⟩ | ⟨rfl, h2, rfl⟩ | ⟨rfl, h2, rfl⟩ | ⟨rfl, h2, rfl⟩ | ⟨rfl, h2, rfl⟩ | ⟨rfl, _, rfl⟩ | ⟨rfl, _, rfl⟩
  · go_wp2_with fail
    go_ret
    exact ⟨rfl, hS.below⟩
  · have HV := Lib.hid (show decide (q % 2 = 0) = false from decide_eq_false (by omega))
    clear h2
    go_wp2_with fail
    refine (kEven (z := q) w10 HQS.out (vS_cS q)).mono ?_
    rintro _ _ ⟨rfl, rfl⟩
    rw [HV.out]
    go_wp2_with fail
    go_ret
    exact ⟨rfl, hS.below⟩
  · have HV := Lib.hid (show decide (q % 2 = 0) = true from decide_eq_true (by omega))
    clear h2
    go_wp2_with fail
    refine (kEven (z := q) w10 HQS.out (vS_cS q)).mono ?_
    rintro _ _ ⟨rfl, rfl⟩
    rw [HV.out]
    go_wp2_with fail
    go_ret
    exact ⟨rfl, hS.below⟩
  · have h3 : ¬ 0 < c := by omega
    have h4 : (c == 0) = false := by simp; omega
    go_wp2_with fail
    go_ret
    exact ⟨rfl, hS.below⟩
  · go_wp2_with fail
    go_ret
    exact ⟨rfl, hS.below⟩
  · have h5 : decide (cn < 0) = false := decide_eq_false (by omega)
    clear h2
    go_wp2_with fail
    go_ret
    exact ⟨rfl, hS.below⟩
  · go_wp2_with fail
    go_ret
    exact ⟨rfl, hS.below⟩
  · have h3 : ¬ 0 < c := by omega
    have h4 : (c == 0) = false := by simp; omega
    go_wp2_with fail
    go_ret
    exact ⟨rfl, hS.below⟩
  · go_wp2_with fail
    go_ret
    exact ⟨rfl, hS.below⟩
  · have h5 : decide (cn < 0) = false := decide_eq_false (by omega)
    clear h2
    go_wp2_with fail
    go_ret
    exact ⟨rfl, hS.below⟩
  · have h5 : decide (cn < 0) = false := decide_eq_false (by omega)
    clear h2
    go_wp2_with fail
    go_ret
    exact ⟨rfl, hS.below⟩
  · go_wp2_with fail
    go_ret
    exact ⟨rfl, hS.below⟩
  · go_wp2_with fail
    go_ret
    exact ⟨rfl, hS.below⟩
  · go_wp2_with fail
    go_ret
    exact ⟨rfl, hS.below⟩

end Go.Proofs.YthhihdihkddakaaGreatDoor

/- The reference implementation of layer 3: RoundTo, Round, Scale, Format: the walks. -/
namespace Go.Proofs.YthhihdihkddakaaGreatDoor
open Go.RowKit Fra

theorem kRoundTo_any {fn fd : ByteArray} {m z : Int} (hn : fn.size ≤ 300) (hd : fd.size ≤ 300) (h1 : 1 ≤ m) (h6 : m ≤ 6) (hz : rnd m (raw fn fd) = z) : Ret 127 #[.agg #[.string fn, .string fd], .int .i64 m] (.string (cS z)) := by
  by_cases h0 : rest (raw fn fd) = 0
  · exact kRoundTo_e hn hd h0 hz
  · exact kRoundTo_r hn hd h1 h6 h0 hz

set_option maxRecDepth 100000 in
set_option maxHeartbeats 16000000 in
theorem kRound_ok {fn fd : ByteArray} {m z : Int} (hn : fn.size ≤ 300) (hd : fd.size ≤ 300) (h1 : 1 ≤ m) (h6 : m ≤ 6) (hz : rnd m (raw fn fd) = z) : Ret 74 #[.agg #[.string fn, .string fd], .int .i64 m] (two (cS z) 0) := by
  intro w hG
  have HM := Lib.hid (okM_true h1 h6)
  have HR := Lib.hid (kRoundTo_any hn hd h1 h6 hz)
  clear h1 h6 hz
  obtain ⟨W0, hW0⟩ : ∃ W0, W0 = w.alloc (.cells #[.string fn, .string fd] 36) := ⟨_, rfl⟩
  have hS : StL w W0 [(w.heap.size, fn, fd)] := by rw [hW0]; exact StL.one hG _ _
  go_enter Tryz.func74, Tryz.ntmps74
  go_upto_region 1 with fail
  rw [← hW0]
  clear hW0
  obtain ⟨fp0, _⟩ := hS.box
  obtain ⟨fx0, fy0, _, _⟩ := fp0.cells
  go_wp2_with fail
  clear fp0 fx0 fy0
  refine Calls.mono (kMode m W0) ?_
  rintro _ _ ⟨rfl, rfl⟩
  rw [HM.out]
  obtain ⟨fp0, _⟩ := hS.box
  obtain ⟨fx0, fy0, _, _⟩ := fp0.cells
  go_wp2_with fail
  clear fp0 fx0 fy0
  refine Calls.mono (Ret.call HR.out _ hS.g) ?_
  rintro _ w1 ⟨rfl, hB⟩
  replace hS := hS.next hB
  clear hB
  obtain ⟨fp0, _⟩ := hS.box
  obtain ⟨fx0, fy0, _, _⟩ := fp0.cells
  go_wp2_with fail
  go_ret2
  exact ⟨rfl, hS.below⟩

end Go.Proofs.YthhihdihkddakaaGreatDoor

/- Plain mathematics of layer 4: the places of remainders, and a number divided by weights. -/
namespace Go.Proofs.YthhihdihkddakaaGreatDoor.Num

/-! ### Who stands ahead: the greater remainder, of equal ones the lower place -/
def ahd (r : Nat → Nat) (j i : Nat) : Bool := decide (r i < r j ∨ (r j = r i ∧ j < i))
theorem ahd_iff {r : Nat → Nat} {j i : Nat} : ahd r j i = true ↔ r i < r j ∨ (r j = r i ∧ j < i) := by unfold ahd; exact decide_eq_true_iff
theorem ahd_irrefl (r : Nat → Nat) (i : Nat) : ¬ ahd r i i = true := by rw [ahd_iff]; omega
theorem ahd_asymm {r : Nat → Nat} {i j : Nat} (h : ahd r i j = true) : ¬ ahd r j i = true := by rw [ahd_iff] at *; omega
theorem ahd_trans {r : Nat → Nat} {i j k : Nat} (h : ahd r i j = true) (g : ahd r j k = true) : ahd r i k = true := by rw [ahd_iff] at *; omega
theorem ahd_total (r : Nat → Nat) {i j : Nat} (h : i ≠ j) : ahd r i j = true ∨ ahd r j i = true := by rw [ahd_iff, ahd_iff]; omega
/-- how many of n places stand ahead of place i -/
def rk (r : Nat → Nat) (n i : Nat) : Nat := (List.range n).countP fun j => ahd r j i

def ahdE (r : Nat → Nat) (a b : Nat) : Bool := decide (a = b) || ahd r a b
theorem ahdE_iff {r : Nat → Nat} {a b : Nat} : ahdE r a b = true ↔ a = b ∨ ahd r a b = true := by unfold ahdE; rw [Bool.or_eq_true, decide_eq_true_iff]
/-- the places in their order -/
def placed (r : Nat → Nat) (n : Nat) : List Nat := (List.range n).mergeSort (ahdE r)
theorem placed_perm (r : Nat → Nat) (n : Nat) : (placed r n).Perm (List.range n) := List.mergeSort_perm _ _
theorem placed_sorted (r : Nat → Nat) (n : Nat) : (placed r n).Pairwise fun a b => ahd r a b = true := by
  have h1 : (placed r n).Pairwise fun a b => ahdE r a b = true := List.pairwise_mergeSort
    (fun a b c h g => by
      rw [ahdE_iff] at *
      rcases h with rfl | h
      · exact g
      · rcases g with rfl | g
        · exact Or.inr h
        · exact Or.inr (ahd_trans h g))
    (fun a b => by
      rw [Bool.or_eq_true, ahdE_iff, ahdE_iff]
      by_cases h : a = b
      · exact Or.inl (Or.inl h)
      · rcases ahd_total r h with k | k
        · exact Or.inl (Or.inr k)
        · exact Or.inr (Or.inr k)) _
  have h2 : (placed r n).Nodup := (placed_perm r n).nodup_iff.2 List.nodup_range
  have h3 := List.Pairwise.and h1 h2
  exact h3.imp fun h => by
    rcases ahdE_iff.1 h.1 with e | e
    · exact absurd e h.2
    · exact e
theorem rk_part {r : Nat → Nat} {n a : Nat} {l m : List Nat} (h : placed r n = l ++ a :: m) : rk r n a = l.length := by
  have hs := placed_sorted r n
  rw [h, List.pairwise_append] at hs
  obtain ⟨_, h2, h3⟩ := hs
  have h4 := (List.pairwise_cons.1 h2).1
  unfold rk
  rw [← (placed_perm r n).countP_eq, h, List.countP_append, List.countP_cons_of_neg (p := fun j => ahd r j a) (ahd_irrefl r a)]
  rw [List.countP_eq_length.2 (fun b hb => h3 b hb a (List.mem_cons_self ..)), List.countP_eq_zero.2 (fun b hb => ahd_asymm (h4 b hb)), Nat.add_zero]
theorem rk_at {r : Nat → Nat} {n i : Nat} (hi : i < n) : ∃ l m, placed r n = l ++ i :: m ∧ rk r n i = l.length := by
  have h : i ∈ placed r n := (placed_perm r n).mem_iff.2 (List.mem_range.2 hi)
  obtain ⟨l, m, e⟩ := List.append_of_mem h
  exact ⟨l, m, e, rk_part e⟩
theorem placed_length (r : Nat → Nat) (n : Nat) : (placed r n).length = n := by rw [(placed_perm r n).length_eq, List.length_range]
theorem rk_lt {r : Nat → Nat} {n i : Nat} (hi : i < n) : rk r n i < n := by
  obtain ⟨l, m, e, k⟩ := rk_at (r := r) hi
  have := placed_length r n
  rw [e] at this
  simp at this
  omega
theorem rk_get {r : Nat → Nat} {n i : Nat} (hi : i < n) : (placed r n)[rk r n i]? = some i := by
  obtain ⟨l, m, e, k⟩ := rk_at (r := r) hi
  rw [k, e, List.getElem?_append_right (Nat.le_refl _), Nat.sub_self]
  rfl
theorem rk_inj {r : Nat → Nat} {n i j : Nat} (hi : i < n) (hj : j < n) (h : rk r n i = rk r n j) : i = j := by
  have h1 := rk_get (r := r) hi
  rw [h, rk_get hj] at h1
  injection h1 with h1
  exact h1.symm
theorem ahd_of_rk {r : Nat → Nat} {n i j : Nat} (hi : i < n) (hj : j < n) (h : rk r n i < rk r n j) : ahd r i j = true := by
  obtain ⟨l, m, e, k⟩ := rk_at (r := r) hj
  have h1 := rk_get (r := r) hi
  rw [e, List.getElem?_append_left (by omega)] at h1
  have hs := placed_sorted r n
  rw [e, List.pairwise_append] at hs
  exact hs.2.2 i (List.mem_of_getElem? h1) j (List.mem_cons_self ..)
/-- the places are in the order of who stands ahead -/
theorem rk_lt_iff {r : Nat → Nat} {n i j : Nat} (hi : i < n) (hj : j < n) : rk r n i < rk r n j ↔ ahd r i j = true := by
  refine ⟨ahd_of_rk hi hj, fun h => ?_⟩
  rcases Nat.lt_trichotomy (rk r n i) (rk r n j) with k | k | k
  · exact k
  · have := rk_inj hi hj k
    subst this
    exact absurd h (ahd_irrefl r i)
  · exact absurd h (ahd_asymm (ahd_of_rk hj hi k))
/-! ### Sums over places -/
def sumN (f : Nat → Nat) : Nat → Nat
  | 0 => 0
  | n + 1 => sumN f n + f n
theorem sumN_add (f g : Nat → Nat) : ∀ n, sumN (fun i => f i + g i) n = sumN f n + sumN g n
  | 0 => rfl
  | n + 1 => by simp only [sumN]; rw [sumN_add f g n]; omega
theorem sumN_mul (k : Nat) (f : Nat → Nat) : ∀ n, sumN (fun i => k * f i) n = k * sumN f n
  | 0 => rfl
  | n + 1 => by simp only [sumN]; rw [sumN_mul k f n, Nat.mul_add]
theorem sumN_congr {f g : Nat → Nat} : ∀ {n}, (∀ i, i < n → f i = g i) → sumN f n = sumN g n
  | 0, _ => rfl
  | n + 1, h => by simp only [sumN]; rw [sumN_congr (fun i hi => h i (by omega)), h n (by omega)]
/-- numbers below k + 1, of which c are not 0, have a sum of at most c * k -/
theorem sumN_bound {f : Nat → Nat} {k : Nat} : ∀ {n}, (∀ i, i < n → f i ≤ k) → sumN f n ≤ (List.range n).countP (fun i => decide (f i ≠ 0)) * k
  | 0, _ => by simp [sumN]
  | n + 1, h => by
    have h1 := sumN_bound (n := n) (fun i hi => h i (by omega))
    have h2 := h n (by omega)
    simp only [sumN]
    rw [List.range_succ, List.countP_append, List.countP_singleton, Nat.add_mul]
    by_cases h0 : f n = 0
    · rw [decide_eq_false (by omega), if_neg (by decide)]; omega
    · rw [decide_eq_true h0, if_pos rfl]; omega

/-! ### T divided by weights w 0 .. w (n - 1), whose sum is W -/
def quoP (T W : Nat) (w : Nat → Nat) (i : Nat) : Nat := T * w i / W
def remP (T W : Nat) (w : Nat → Nat) (i : Nat) : Nat := T * w i % W
def missP (T W : Nat) (w : Nat → Nat) (n : Nat) : Nat := T - sumN (quoP T W w) n
def partP (T W : Nat) (w : Nat → Nat) (n i : Nat) : Nat := quoP T W w i + if rk (remP T W w) n i < missP T W w n then 1 else 0
theorem rem_sum {T W n : Nat} {w : Nat → Nat} (hW : sumN w n = W) : W * sumN (quoP T W w) n + sumN (remP T W w) n = T * W := by
  rw [← sumN_mul, ← sumN_add, ← hW, ← sumN_mul]
  refine sumN_congr fun i _ => ?_
  unfold quoP remP
  exact Nat.div_add_mod _ _
theorem quo_le {T W n : Nat} {w : Nat → Nat} (hW : sumN w n = W) (h0 : 0 < W) : sumN (quoP T W w) n ≤ T := by
  have h := rem_sum (T := T) hW
  have h1 : W * sumN (quoP T W w) n ≤ W * T := by rw [Nat.mul_comm W T]; omega
  exact Nat.le_of_mul_le_mul_left h1 h0
theorem miss_eq {T W n : Nat} {w : Nat → Nat} (hW : sumN w n = W) : W * missP T W w n = sumN (remP T W w) n := by
  have h := rem_sum (T := T) hW
  unfold missP
  rw [Nat.mul_sub, Nat.mul_comm W T]
  omega
/-- what is missing is at most the number of remainders that are not 0 -/
theorem miss_le {T W n : Nat} {w : Nat → Nat} (hW : sumN w n = W) (h0 : 0 < W) : missP T W w n ≤ (List.range n).countP (fun i => decide (remP T W w i ≠ 0)) := by
  have h1 := miss_eq (T := T) hW
  have h2 := sumN_bound (f := remP T W w) (k := W) (n := n) (fun i _ => Nat.le_of_lt (Nat.mod_lt _ h0))
  rw [← h1, Nat.mul_comm] at h2
  exact Nat.le_of_mul_le_mul_right h2 h0
theorem miss_le_n {T W n : Nat} {w : Nat → Nat} (hW : sumN w n = W) (h0 : 0 < W) : missP T W w n ≤ n := by
  have h := miss_le (T := T) hW h0
  have h2 := List.countP_le_length (p := fun i => decide (remP T W w i ≠ 0)) (l := List.range n)
  rw [List.length_range] at h2
  omega
/-- weights multiplied by a positive number: the same parts -/
theorem part_scale {T W n i c : Nat} {w : Nat → Nat} (hc : 0 < c) : partP T (c * W) (fun j => c * w j) n i = partP T W w n i := by
  have hq : quoP T (c * W) (fun j => c * w j) = quoP T W w := by
    funext j
    unfold quoP
    rw [Nat.mul_left_comm, Nat.mul_div_mul_left _ _ hc]
  have hr : ∀ j, remP T (c * W) (fun j => c * w j) j = c * remP T W w j := fun j => by
    unfold remP
    rw [Nat.mul_left_comm, Nat.mul_mod_mul_left]
  have ha : ∀ a b, ahd (remP T (c * W) (fun j => c * w j)) a b = ahd (remP T W w) a b := fun a b => by
    unfold ahd
    rw [hr, hr]
    refine decide_eq_decide.2 ?_
    have h1 : c * remP T W w b < c * remP T W w a ↔ remP T W w b < remP T W w a := Nat.mul_lt_mul_left hc
    have h2 : c * remP T W w a = c * remP T W w b ↔ remP T W w a = remP T W w b := ⟨fun h => Nat.eq_of_mul_eq_mul_left hc h, fun h => by rw [h]⟩
    rw [h1, h2]
  have hk : rk (remP T (c * W) (fun j => c * w j)) n i = rk (remP T W w) n i := by
    unfold rk
    exact congrArg (fun p => List.countP p (List.range n)) (funext fun j => ha j i)
  unfold partP missP
  rw [hq, hk]

end Go.Proofs.YthhihdihkddakaaGreatDoor.Num

/- Plain mathematics of layer 4: the best one again and again, units moved, parts with a sign, beginnings. -/
namespace Go.Proofs.YthhihdihkddakaaGreatDoor.Num

theorem rk_some {r : Nat → Nat} {n k : Nat} (hk : k < n) : ∃ i, i < n ∧ rk r n i = k := by
  have h : k < (placed r n).length := by rw [placed_length]; exact hk
  have hm : (placed r n)[k] < n := List.mem_range.1 ((placed_perm r n).mem_iff.1 (List.getElem_mem h))
  have e : placed r n = (placed r n).take k ++ (placed r n)[k] :: (placed r n).drop (k + 1) := by rw [← List.drop_eq_getElem_cons h, List.take_append_drop]
  refine ⟨(placed r n)[k], hm, ?_⟩
  rw [rk_part e, List.length_take]
  omega
/-- what is left of a remainder when k units have been given away: the unit that it got is taken off -/
def restP (r : Nat → Nat) (W n k i : Nat) : Int := (r i : Int) - if rk r n i < k then (W : Int) else 0
/-- the first of the greatest rests is the next in the order -/
theorem best_is {r : Nat → Nat} {W n k b : Nat} (hk : k < n) (hr : ∀ i, i < n → r i < W) (hb : b < n)
    (hm : ∀ j, j < n → restP r W n k j ≤ restP r W n k b) (hf : ∀ j, j < n → restP r W n k j = restP r W n k b → b ≤ j) : rk r n b = k := by
  obtain ⟨p, hp, hpk⟩ := rk_some (r := r) hk
  have h1 := hm p hp
  have h2 := hf p hp
  have h3 := hr b hb
  have hnb : ¬ rk r n b < k := by
    intro h
    unfold restP at h1
    rw [if_neg (by omega), if_pos h] at h1
    omega
  unfold restP at h1 h2
  rw [if_neg (by omega), if_neg hnb] at h1 h2
  rcases Nat.lt_or_ge k (rk r n b) with h | h
  · have ha := ahd_of_rk (r := r) hp hb (by omega)
    rw [ahd_iff] at ha
    rcases ha with ha | ⟨e, ha⟩
    · omega
    · have := h2 (by omega); omega
  · omega

/-! ### With a sign -/
def sumZ (f : Nat → Int) : Nat → Int
  | 0 => 0
  | n + 1 => sumZ f n + f n
/-- the division of T by weights -/
def splitP (T : Int) (W : Nat) (w : Nat → Nat) (n i : Nat) : Int := if T < 0 then -(partP T.natAbs W w n i : Int) else partP T.natAbs W w n i
theorem split_scale {T : Int} {W n i c : Nat} {w : Nat → Nat} (hc : 0 < c) : splitP T (c * W) (fun j => c * w j) n i = splitP T W w n i := by
  unfold splitP
  rw [part_scale hc]
/-! ### Each beginning has its part -/
def runP (T : Int) (W : Nat) (w : Nat → Nat) (i : Nat) : Int := Int.fdiv (T * (sumN w (i + 1) : Nat)) W - Int.fdiv (T * (sumN w i : Nat)) W
end Go.Proofs.YthhihdihkddakaaGreatDoor.Num

/- Plain mathematics of layer 4: insertion of places that ascend; what is sorted is in the order of the places. -/
namespace Go.Proofs.YthhihdihkddakaaGreatDoor.Num

theorem length_le_of_sub : ∀ {l m : List Nat}, l.Nodup → (∀ x ∈ l, x ∈ m) → l.length ≤ m.length
  | [], _, _, _ => by simp
  | a :: l, m, hn, hs => by
    have h1 := List.nodup_cons.1 hn
    have ha : a ∈ m := hs a (List.mem_cons_self ..)
    have h2 := length_le_of_sub (l := l) (m := m.erase a) h1.2 (fun x hx => (List.mem_erase_of_ne (by intro e; subst e; exact h1.1 hx)).2 (hs x (List.mem_cons_of_mem _ hx)))
    rw [List.length_erase_of_mem ha] at h2
    have := List.length_pos_of_mem ha
    rw [List.length_cons]
    omega
theorem mem_of_full {l : List Nat} {n : Nat} (hn : l.Nodup) (hs : ∀ x ∈ l, x < n) (hl : l.length = n) {i : Nat} (hi : i < n) : i ∈ l := by
  by_cases h : i ∈ l
  · exact h
  · have := length_le_of_sub (l := i :: l) (m := List.range n) (List.nodup_cons.2 ⟨h, hn⟩) (fun x hx => by
      rcases List.mem_cons.1 hx with rfl | hx
      · exact List.mem_range.2 hi
      · exact List.mem_range.2 (hs x hx))
    rw [List.length_cons, List.length_range] at this
    omega

/-- d has n places in order, each below n -/
structure Sorted (r : Nat → Nat) (n : Nat) (d : Nat → Nat) : Prop where
  lt : ∀ p, p < n → d p < n
  ord : ∀ p q, p < q → q < n → ahd r (d p) (d q) = true
theorem Sorted.inj {r : Nat → Nat} {n : Nat} {d : Nat → Nat} (h : Sorted r n d) {p q : Nat} (hp : p < n) (hq : q < n) (e : d p = d q) : p = q := by
  rcases Nat.lt_trichotomy p q with k | k | k
  · have := h.ord p q k hq; rw [e] at this; exact absurd this (ahd_irrefl r _)
  · exact k
  · have := h.ord q p k hp; rw [e] at this; exact absurd this (ahd_irrefl r _)
theorem Sorted.all {r : Nat → Nat} {n : Nat} {d : Nat → Nat} (h : Sorted r n d) {i : Nat} (hi : i < n) : ∃ p, p < n ∧ d p = i := by
  have h1 : ((List.range n).map d).Nodup := by
    unfold List.Nodup
    rw [List.pairwise_map]
    refine List.Pairwise.imp_of_mem (R := fun a b => a < b) (fun {a b} ha hb hab => ?_) List.pairwise_lt_range
    intro e
    have := h.inj (List.mem_range.1 ha) (List.mem_range.1 hb) e
    omega
  have h2 := mem_of_full (i := i) h1 (fun x hx => by obtain ⟨p, hp, rfl⟩ := List.mem_map.1 hx; exact h.lt p (List.mem_range.1 hp)) (by simp) hi
  obtain ⟨p, hp, e⟩ := List.mem_map.1 h2
  exact ⟨p, List.mem_range.1 hp, e⟩
/-- the place at p has p places ahead of it -/
theorem Sorted.rk {r : Nat → Nat} {n : Nat} {d : Nat → Nat} (h : Sorted r n d) : ∀ p, p < n → Num.rk r n (d p) = p := by
  intro p
  induction p using Nat.strongRecOn with
  | _ p ih =>
    intro hp
    have hk := rk_lt (r := r) (h.lt p hp)
    rcases Nat.lt_trichotomy (Num.rk r n (d p)) p with k | k | k
    · have e := ih _ k (by omega)
      have := rk_inj (h.lt _ (by omega)) (h.lt p hp) e
      have := h.inj (by omega) hp this
      omega
    · exact k
    · obtain ⟨j, hj, hjk⟩ := rk_some (r := r) hp
      obtain ⟨q, hq, rfl⟩ := h.all hj
      rcases Nat.lt_trichotomy q p with a | a | a
      · have := ih q a hq; omega
      · subst a; omega
      · have h1 := (rk_lt_iff (h.lt p hp) (h.lt q hq)).2 (h.ord p q a hq)
        omega
theorem Sorted.first {r : Nat → Nat} {n m i : Nat} {d : Nat → Nat} (h : Sorted r n d) (hm : m ≤ n) (hi : i < n) : (∃ p, p < m ∧ d p = i) ↔ Num.rk r n i < m := by
  constructor
  · rintro ⟨p, hp, rfl⟩
    rw [h.rk p (by omega)]; exact hp
  · intro hr
    obtain ⟨p, hp, rfl⟩ := h.all hi
    rw [h.rk p hp] at hr
    exact ⟨p, hr, rfl⟩

/-- the first i places are in order, the others lie as they lay -/
structure Outer (r : Nat → Nat) (n i : Nat) (d : Nat → Nat) : Prop where
  lt : ∀ p, p < i → d p < i
  ord : ∀ p q, p < q → q < i → ahd r (d p) (d q) = true
  rest : ∀ p, i ≤ p → p < n → d p = p
/-- i is at j; all others of the first i + 1 are in order, i stands ahead of those behind j -/
structure Inner (r : Nat → Nat) (n i j : Nat) (d : Nat → Nat) : Prop where
  le : j ≤ i
  at_ : d j = i
  lt : ∀ p, p ≤ i → p ≠ j → d p < i
  ord : ∀ p q, p < q → q ≤ i → p ≠ j → q ≠ j → ahd r (d p) (d q) = true
  behind : ∀ q, j < q → q ≤ i → ahd r i (d q) = true
  rest : ∀ p, i < p → p < n → d p = p
theorem Outer.start (r : Nat → Nat) (n : Nat) : Outer r n 1 fun p => p := ⟨fun p h => h, fun p q h k => by omega, fun _ _ _ => rfl⟩
theorem Outer.none (r : Nat → Nat) (n : Nat) : Outer r n 0 fun p => p := ⟨fun p h => h, fun p q h k => by omega, fun _ _ _ => rfl⟩
theorem Outer.inner {r : Nat → Nat} {n i : Nat} {d : Nat → Nat} (h : Outer r n i d) (hi : i < n) : Inner r n i i d :=
  ⟨Nat.le_refl _, h.rest i (Nat.le_refl _) hi, fun p hp hne => h.lt p (by omega), fun p q hpq hq hp hq' => h.ord p q hpq (by omega), fun q hq hq' => by omega, fun p hp hn => h.rest p (by omega) hn⟩
/-- whom the test lets by: the greater remainder -/
theorem Inner.test {r : Nat → Nat} {n i j : Nat} {d : Nat → Nat} (h : Inner r n i (j + 1) d) : r (d j) < r i ↔ ahd r i (d j) = true := by
  have := h.lt j (by have := h.le; omega) (by omega)
  rw [ahd_iff]
  omega
theorem Inner.swap {r : Nat → Nat} {n i j : Nat} {d : Nat → Nat} (h : Inner r n i (j + 1) d) (ht : r (d j) < r i) : Inner r n i j (fun p => if p = j then d (j + 1) else if p = j + 1 then d j else d p) := by
  have hle := h.le
  have ha := h.test.1 ht
  refine ⟨by omega, by rw [if_pos rfl]; exact h.at_, ?_, ?_, ?_, ?_⟩
  · intro p hp hne
    show (if p = j then _ else _) < i
    rw [if_neg hne]
    by_cases e : p = j + 1
    · rw [if_pos e]; exact h.lt j (by omega) (by omega)
    · rw [if_neg e]; exact h.lt p hp e
  · intro p q hpq hq hp hq'
    show ahd r (if p = j then _ else _) (if q = j then _ else _) = true
    rw [if_neg hp, if_neg hq']
    by_cases e : p = j + 1
    · rw [if_pos e, if_neg (by omega)]
      exact h.ord j q (by omega) hq (by omega) (by omega)
    · rw [if_neg e]
      by_cases f : q = j + 1
      · rw [if_pos f]; exact h.ord p j (by omega) (by omega) e (by omega)
      · rw [if_neg f]; exact h.ord p q hpq hq e f
  · intro q hq hqi
    show ahd r i (if q = j then _ else _) = true
    rw [if_neg (by omega)]
    by_cases e : q = j + 1
    · rw [if_pos e]; exact ha
    · rw [if_neg e]; exact h.behind q (by omega) hqi
  · intro p hp hn
    show (if p = j then _ else _) = p
    rw [if_neg (by omega), if_neg (by omega)]; exact h.rest p hp hn
theorem Inner.done {r : Nat → Nat} {n i j : Nat} {d : Nat → Nat} (h : Inner r n i j d) (ht : ∀ k, k + 1 = j → ¬ r (d k) < r i) : Outer r n (i + 1) d := by
  have hle := h.le
  have hat := h.at_
  have ahead : ∀ p, p < j → ahd r (d p) i = true := by
    intro p hp
    obtain ⟨k, rfl⟩ : ∃ k, j = k + 1 := ⟨j - 1, by omega⟩
    have h1 := ht k rfl
    have h2 := h.lt k (by omega) (by omega)
    have h3 : ahd r (d k) i = true := by rw [ahd_iff]; omega
    rcases Nat.lt_or_ge p k with a | a
    · exact ahd_trans (h.ord p k a (by omega) (by omega) (by omega)) h3
    · obtain rfl : p = k := by omega
      exact h3
  refine ⟨fun p hp => ?_, fun p q hpq hq => ?_, fun p hp hn => h.rest p (by omega) hn⟩
  · by_cases e : p = j
    · subst e; omega
    · have := h.lt p (by omega) e; omega
  · by_cases e : p = j
    · subst e; rw [hat]; exact h.behind q hpq (by omega)
    · by_cases f : q = j
      · subst f; rw [hat]; exact ahead p hpq
      · exact h.ord p q hpq (by omega) e f
theorem Outer.sorted {r : Nat → Nat} {n i : Nat} {d : Nat → Nat} (h : Outer r n i d) (hi : n ≤ i) (hin : i ≤ n) : Sorted r n d := by
  obtain rfl : i = n := by omega
  exact ⟨h.lt, h.ord⟩

end Go.Proofs.YthhihdihkddakaaGreatDoor.Num

/- Plain mathematics of layer 4: a common denominator; fractions that add up to 1; the same proportions. -/
namespace Go.Proofs.YthhihdihkddakaaGreatDoor.Num

/-- the least common multiple of the first k denominators, as the program makes it -/
def lcmD (de : Nat → Nat) : Nat → Nat
  | 0 => 1
  | k + 1 => lcmD de k * (de k / Nat.gcd (de k) (lcmD de k))
theorem lcmD_succ (de : Nat → Nat) (k : Nat) : lcmD de (k + 1) = Nat.lcm (lcmD de k) (de k) := by
  show lcmD de k * (de k / Nat.gcd (de k) (lcmD de k)) = _
  unfold Nat.lcm
  rw [Nat.gcd_comm (de k), Nat.mul_div_assoc _ (Nat.gcd_dvd_right _ _)]
theorem lcmD_pos {de : Nat → Nat} : ∀ {k : Nat}, (∀ i, i < k → 0 < de i) → 0 < lcmD de k
  | 0, _ => Nat.one_pos
  | k + 1, h => by rw [lcmD_succ]; exact Nat.lcm_pos (lcmD_pos fun i hi => h i (by omega)) (h k (by omega))
theorem dvd_lcmD {de : Nat → Nat} : ∀ {k i : Nat}, i < k → de i ∣ lcmD de k
  | k + 1, i, h => by
    rw [lcmD_succ]
    by_cases e : i = k
    · subst e; exact Nat.dvd_lcm_right _ _
    · exact Nat.dvd_trans (dvd_lcmD (show i < k by omega)) (Nat.dvd_lcm_left _ _)
theorem lcmD_dvd {de : Nat → Nat} {X : Nat} : ∀ {k : Nat}, (∀ i, i < k → de i ∣ X) → lcmD de k ∣ X
  | 0, _ => Nat.one_dvd _
  | k + 1, h => by rw [lcmD_succ]; exact Nat.lcm_dvd (lcmD_dvd fun i hi => h i (by omega)) (h k (by omega))
theorem lcmD_le {de : Nat → Nat} {B : Nat} : ∀ {k : Nat}, (∀ i, i < k → 0 < de i ∧ de i < B) → lcmD de k ≤ B ^ k
  | 0, _ => by simp [lcmD]
  | k + 1, h => by
    have h1 := lcmD_le (de := de) (B := B) (k := k) (fun i hi => h i (by omega))
    have h2 := h k (by omega)
    show lcmD de k * (de k / Nat.gcd (de k) (lcmD de k)) ≤ _
    rw [Nat.pow_succ]
    exact Nat.mul_le_mul h1 (Nat.le_trans (Nat.div_le_self _ _) (by omega))
/-- the numerator over M -/
def numW (nu de : Nat → Nat) (M i : Nat) : Nat := nu i * (M / de i)
theorem numW_eq {nu de : Nat → Nat} {M i : Nat} (h : de i ∣ M) : numW nu de M i * de i = nu i * M := by
  unfold numW
  rw [Nat.mul_assoc, Nat.div_mul_cancel h]
end Go.Proofs.YthhihdihkddakaaGreatDoor.Num

/- Layer 4: rows of strings and of fractions in memory: read, made whole, appended to. -/
namespace Go.Proofs.YthhihdihkddakaaGreatDoor
open Go.RowKit

/-! ### Cells that are read -/
/-- the m cells c lie behind the address xa; nothing is known of the address of none -/
structure Rc (w : World) (xa : Option Addr) (m : Nat) (c : Nat → Value) : Prop where
  sl : 0 < m → ∃ b o, xa = some ⟨b, o, none⟩ ∧ b < w.heap.size ∧ ∀ i, i < m → w.cell? ⟨b, o + i, none⟩ = some (c i)
theorem Rc.nil (w : World) (xa : Option Addr) (c : Nat → Value) : Rc w xa 0 c := ⟨fun h => absurd h (by omega)⟩
theorem Rc.below {w w' : World} {xa : Option Addr} {m : Nat} {c : Nat → Value} (h : Rc w xa m c) (hb : Below w.heap.size w w') : Rc w' xa m c :=
  ⟨fun h0 => by obtain ⟨b, o, e, hl, hc⟩ := h.sl h0; exact ⟨b, o, e, Nat.lt_of_lt_of_le hl hb.size, fun i hi => (hb.cell (p := ⟨b, o + i, none⟩) hl).trans (hc i hi)⟩⟩
theorem Rc.belowAt {B : Nat} {w w' : World} {xa : Option Addr} {m : Nat} {c : Nat → Value} (h : Rc w xa m c) (hb : Below B w w') (hB : w.heap.size ≤ B) : Rc w' xa m c := h.below (hb.mono hB)
theorem Rc.drewN {w : World} {xa : Option Addr} {m : Nat} {c : Nat → Value} (h : Rc w xa m c) (n : Nat) : Rc (w.drewN n) xa m c := ⟨h.sl⟩
theorem Rc.alloc {w : World} {xa : Option Addr} {m : Nat} {c : Nat → Value} (h : Rc w xa m c) (o : Obj) : Rc (w.alloc o) xa m c := h.below ((Below.refl _ w).alloc (Nat.le_refl _) o)
theorem Rc.prefix {w : World} {xa : Option Addr} {m k : Nat} {c : Nat → Value} (h : Rc w xa m c) (hk : k ≤ m) : Rc w xa k c :=
  ⟨fun h0 => by obtain ⟨b, o, e, hl, hc⟩ := h.sl (by omega); exact ⟨b, o, e, hl, fun i hi => hc i (by omega)⟩⟩
theorem Rc.congr {w : World} {xa : Option Addr} {m : Nat} {c d : Nat → Value} (h : Rc w xa m c) (e : ∀ i, i < m → d i = c i) : Rc w xa m d :=
  ⟨fun h0 => by obtain ⟨b, o, ea, hl, hc⟩ := h.sl h0; exact ⟨b, o, ea, hl, fun i hi => by rw [hc i hi, e i hi]⟩⟩
theorem Rc.setOther {w : World} {xa : Option Addr} {m : Nat} {c : Nat → Value} (h : Rc w xa m c) {a : Addr} (hne : ∀ b o, xa = some ⟨b, o, none⟩ → b ≠ a.block) (v : Value) : Rc (w.setCell a v) xa m c :=
  ⟨fun h0 => by
    obtain ⟨b, o, e, hl, hc⟩ := h.sl h0
    exact ⟨b, o, e, by simpa [World.setCell] using hl, fun i hi => (World.cell?_of_block (w := w) (a := ⟨b, o + i, none⟩) (Below.heap_setCell w a v b (hne b o e))).trans (hc i hi)⟩⟩
theorem Rc.grown {w w' : World} {xa : Option Addr} {m : Nat} {c : Nat → Value} {row : Option Nat} (h : Rc w xa m c) (hg : w.grownBy w' row) (hne : ∀ b o, xa = some ⟨b, o, none⟩ → some b ≠ row) : Rc w' xa m c :=
  ⟨fun h0 => by obtain ⟨b, o, e, hl, hc⟩ := h.sl h0; exact ⟨b, o, e, Nat.lt_of_lt_of_le hl hg.size, fun i hi => hg.cell (hc i hi) (hne b o e)⟩⟩

/-- a slice of n strings -/
abbrev Rs (w : World) (xa : Option Addr) (n : Nat) (s : Nat → ByteArray) : Prop := Rc w xa n fun i => .string (s i)
/-- a slice of n pairs of strings -/
abbrev Rf (w : World) (xa : Option Addr) (n : Nat) (u v : Nat → ByteArray) : Prop := Rc w xa (n * 2) fun i => .string (if i % 2 = 0 then u (i / 2) else v (i / 2))
theorem Rs.congr {w : World} {xa : Option Addr} {n : Nat} {s t : Nat → ByteArray} (h : Rs w xa n s) (e : ∀ i, i < n → t i = s i) : Rs w xa n t := Rc.congr h fun i hi => by show Value.string _ = Value.string _; rw [e i hi]
theorem Rs.at {w : World} {xa : Option Addr} {n : Nat} {s : Nat → ByteArray} (h : Rs w xa n s) {i : Nat} (hi : i < n) : ∃ b o, xa = some ⟨b, o, none⟩ ∧ b < w.heap.size ∧ w.cell? ⟨b, o + i, none⟩ = some (.string (s i)) := by
  obtain ⟨b, o, e, hl, hc⟩ := h.sl (by omega); exact ⟨b, o, e, hl, hc i hi⟩
theorem Rf.at {w : World} {xa : Option Addr} {n : Nat} {u v : Nat → ByteArray} (h : Rf w xa n u v) {i : Nat} (hi : i < n) :
    ∃ b o, xa = some ⟨b, o, none⟩ ∧ b < w.heap.size ∧ w.cell? ⟨b, o + i * 2, none⟩ = some (.string (u i)) ∧ w.cell? ⟨b, o + i * 2 + 1, none⟩ = some (.string (v i)) := by
  obtain ⟨b, o, e, hl, hc⟩ := h.sl (by omega)
  have h1 := hc (i * 2) (by omega)
  have h2 := hc (i * 2 + 1) (by omega)
  rw [if_pos (by omega), show i * 2 / 2 = i by omega] at h1
  rw [if_neg (by omega), show (i * 2 + 1) / 2 = i by omega, ← Nat.add_assoc] at h2
  exact ⟨b, o, e, hl, h1, h2⟩

/-! ### Rows that a call made whole -/
/-- f, at i x -/
def upd {α : Type} (f : Nat → α) (i : Nat) (x : α) : Nat → α := fun j => if j = i then x else f j
theorem upd_same {α : Type} (f : Nat → α) (i : Nat) (x : α) : upd f i x i = x := if_pos rfl
/-- block b holds n cells c of type t -/
def RowC (w : World) (b : Nat) (t : TypeId) (n : Nat) (c : Nat → Value) : Prop := w.heap[b]? = some (.cells ((List.range n).map c).toArray t (0, 0))
theorem RowC.lt {w : World} {b : Nat} {t : TypeId} {n : Nat} {c : Nat → Value} (h : RowC w b t n c) : b < w.heap.size := (Array.getElem?_eq_some_iff.1 h).1
theorem RowC.cell {w : World} {b : Nat} {t : TypeId} {n : Nat} {c : Nat → Value} (h : RowC w b t n c) {i : Nat} (hi : i < n) : w.cell? ⟨b, i, none⟩ = some (c i) := by
  rw [cell_of_row w b i _ _ _ h]
  simp [hi]
theorem RowC.frozen {w : World} {b : Nat} {t : TypeId} {n : Nat} {c : Nat → Value} (h : RowC w b t n c) (i : Nat) : w.frozen? ⟨b, i, none⟩ = false := frozen_of_row w b i _ _ h
theorem RowC.of_block {w w' : World} {b : Nat} {t : TypeId} {n : Nat} {c : Nat → Value} (h : RowC w b t n c) (e : w'.heap[b]? = w.heap[b]?) : RowC w' b t n c := by
  unfold RowC at *; rw [e]; exact h
theorem RowC.below {B : Nat} {w w' : World} {b : Nat} {t : TypeId} {n : Nat} {c : Nat → Value} (h : RowC w b t n c) (hb : Below B w w') (hlt : b < B) : RowC w' b t n c := h.of_block (hb.block b hlt)
theorem RowC.set {w : World} {b : Nat} {t : TypeId} {n : Nat} {c : Nat → Value} (h : RowC w b t n c) (i : Nat) (v : Value) : RowC (w.setCell ⟨b, i, none⟩ v) b t n (upd c i v) := by
  have := heap_setCell_same w b i _ _ v h
  unfold RowC
  rw [this, List.setIfInBounds_toArray]
  congr 3
  apply List.ext_getElem
  · simp
  · intro k h1 h2
    simp only [List.getElem_set, List.getElem_map, List.getElem_range, upd]
    by_cases e : i = k
    · subst e; simp
    · rw [if_neg e, if_neg (fun q => e q.symm)]
theorem RowC.setOther {w : World} {b : Nat} {t : TypeId} {n : Nat} {c : Nat → Value} (h : RowC w b t n c) {a : Addr} (hne : b ≠ a.block) (v : Value) : RowC (w.setCell a v) b t n c := h.of_block (Below.heap_setCell w a v b hne)
theorem RowC.alloc {w : World} {b : Nat} {t : TypeId} {n : Nat} {c : Nat → Value} (h : RowC w b t n c) (o : Obj) : RowC (w.alloc o) b t n c := h.of_block (Below.heap_alloc w o b h.lt)
theorem RowC.drewN {w : World} {b : Nat} {t : TypeId} {n : Nat} {c : Nat → Value} (h : RowC w b t n c) (k : Nat) : RowC (w.drewN k) b t n c := h
theorem RowC.congr {w : World} {b : Nat} {t : TypeId} {n : Nat} {c d : Nat → Value} (h : RowC w b t n c) (e : ∀ i, i < n → d i = c i) : RowC w b t n d := by
  unfold RowC at *
  rw [h, List.map_congr_left (fun i hi => (e i (List.mem_range.1 hi)).symm)]
theorem RowC.rc {w : World} {b : Nat} {t : TypeId} {n : Nat} {c : Nat → Value} (h : RowC w b t n c) : Rc w (some ⟨b, 0, none⟩) n c :=
  ⟨fun _ => ⟨b, 0, rfl, h.lt, fun i hi => by rw [Nat.zero_add]; exact h.cell hi⟩⟩
theorem RowC.made (w : World) (t : TypeId) (z : Value) (n : Nat) : RowC (w.alloc (.cells (madeCells #[z] n) t)) w.heap.size t n fun _ => z := by
  unfold RowC
  rw [heap_alloc_new]
  have : madeCells #[z] n = ((List.range n).map fun _ => z).toArray := by
    apply Array.toList_inj.1; rw [toList_madeCells_one]; simp [List.map_const']
  rw [this]

/-! ### Rows that grow by append -/
/-- the slice value v owns k cells c of a type of size cells each -/
def OwnC (w : World) (base : Nat) (t : TypeId) (size : Nat) (v : Value) (n : Nat) (c : Nat → Value) : Prop := w.ownsRow base t size v n ((List.range (n * size)).map c)
theorem OwnC.nil (w : World) (base : Nat) (t : TypeId) (size : Nat) (c : Nat → Value) : OwnC w base t size (.slice none 0 0) 0 c := by
  unfold OwnC; rw [Nat.zero_mul]; exact World.ownsRow_nil w base t size
theorem OwnC.kept {w w' : World} {base : Nat} {t : TypeId} {size : Nat} {v : Value} {n : Nat} {c : Nat → Value} (h : OwnC w base t size v n c) (hb : Below w.heap.size w w') : OwnC w' base t size v n c := by
  refine World.ownsRow.kept h (grown_of_below hb none) ?_
  cases hv : v.ownBlock with
  | none => exact .inl rfl
  | some b => exact .inr (by simp)
theorem OwnC.alloc {w : World} {base : Nat} {t : TypeId} {size : Nat} {v : Value} {n : Nat} {c : Nat → Value} (h : OwnC w base t size v n c) (o : Obj) : OwnC (w.alloc o) base t size v n c := World.ownsRow.alloc h o
theorem OwnC.congr {w : World} {base : Nat} {t : TypeId} {size : Nat} {v : Value} {n : Nat} {c d : Nat → Value} (h : OwnC w base t size v n c) (e : ∀ i, i < n * size → d i = c i) : OwnC w base t size v n d := by
  unfold OwnC at *
  rw [List.map_congr_left (fun i hi => e i (List.mem_range.1 hi))]; exact h
theorem OwnC.rc {w : World} {base : Nat} {t : TypeId} {size : Nat} {v : Value} {n : Nat} {c : Nat → Value} (h : OwnC w base t size v n c) : ∃ xa cap, v = .slice xa n cap ∧ Rc w xa (n * size) c ∧ n ≤ cap ∧ cap ≤ maxLen ∧ (∀ b o, xa = some ⟨b, o, none⟩ → base ≤ b) ∧ (xa = none → cap = 0) := by
  rcases h.2 with ⟨rfl, h0⟩ | ⟨g, cap, cur, rfl, hb, hg, hnc, hcm, hcs, ht⟩
  · subst h0
    exact ⟨none, 0, rfl, ⟨fun hp => by omega⟩, Nat.le_refl _, by unfold maxLen; omega, fun b o e => (by cases e), fun _ => rfl⟩
  · refine ⟨some ⟨g, 0, none⟩, cap, rfl, ⟨fun _ => ⟨g, 0, rfl, (Array.getElem?_eq_some_iff.1 hg).1, fun i hi => ?_⟩⟩, hnc, hcm, fun b o e => (by cases e; exact hb), fun e => (by cases e)⟩
    have := World.ownsRow.cells h (g := g) rfl i (c i) (by simp [hi])
    rw [Nat.zero_add, ← this, addr_add]

theorem info_Int : (Tryz.prog.info? 22).map (fun i => (i.zero, i.size, i.bytes)) = some (some (.string ⟨#[]⟩), 1, 16) := by kernel_rfl
theorem info_Frac : (Tryz.prog.info? 36).map (fun i => (i.zero, i.size, i.bytes)) = some (some (.agg #[.string ⟨#[]⟩, .string ⟨#[]⟩]), 2, 32) := by kernel_rfl

/-- make([]Int, n), make([]Int, 0, n) -/
theorem run_makeStrs (n : Nat) (hn : n ≤ 1099511627776) (w : World) :
    (Instr.makeSlice 23 (.int .i64 (n : Int)) (.int .i64 (n : Int))).run Tryz.prog w = .ok (.slice (some ⟨w.heap.size, 0, none⟩) n n) (w.alloc (.cells (madeCells #[.string ⟨#[]⟩] n) 22)) := by
  obtain ⟨i0, hi, hz0, hz1, hz2⟩ := info_parts info_Int
  have hr := run_make (P := Tryz.prog) w 23 22 i0 (.string ⟨#[]⟩) Tryz.underlying23 hi hz0 .i64 .i64 n n (by omega) (by omega) (by rw [hz2]; omega) (by omega)
  simp only [Int.toNat_natCast] at hr
  rw [hr, hz1]
  simp [Value.cells]

/-- the slice value v owns n strings s -/
abbrev OwnS (w : World) (base : Nat) (v : Value) (n : Nat) (s : Nat → ByteArray) : Prop := OwnC w base 22 1 v n fun i => .string (s i)
theorem OwnS.add {w : World} {base : Nat} {v : Value} {n : Nat} {s : Nat → ByteArray} (h : OwnS w base v n s) (g : Nat) (hg : w.cell? ⟨g, 0, none⟩ = some (.string (s n))) (ty : TypeId) (hs : n + 1 ≤ 10000000) (hb : base ≤ w.heap.size) :
    ∃ v' w', (Builtin.append_ #[23, 23] ty #[v, .slice (some ⟨g, 0, none⟩) 1 1]).run Tryz.prog w = .ok v' w' ∧ OwnS w' base v' (n + 1) s ∧ Below base w w' := by
  obtain ⟨i0, hi, hz0, hz1, hz2⟩ := info_parts info_Int
  obtain ⟨v', w', h1, h2, h3, _⟩ := run_append_own (P := Tryz.prog) w base 23 ty 22 i0 (.string ⟨#[]⟩) 1 16 Tryz.underlying23 hi hz0 hz1 hz2 rfl (by decide) v n _ h ⟨g, 0, none⟩ 1 1 [.string (s n)] rfl
    (fun j u hj => by
      match j, hj with
      | 0, hj => simp at hj; subst hj; simpa [Addr.add] using hg
      | j + 1, hj => simp at hj)
    (fun u hu => by simp at hu; subst hu; rfl) (by unfold maxLen; omega) (by omega) hb
  refine ⟨v', w', h1, ?_, (Below.refl base w).grown h3 hb (fun k hk => (World.ownsRow.lt h k hk).1)⟩
  unfold OwnS OwnC
  rw [Nat.mul_one, List.range_succ, List.map_append]
  rw [Nat.mul_one] at h2
  exact h2
/-- the slice value v owns n pairs of strings -/
abbrev OwnF (w : World) (base : Nat) (x : Value) (n : Nat) (u v : Nat → ByteArray) : Prop := OwnC w base 36 2 x n fun i => .string (if i % 2 = 0 then u (i / 2) else v (i / 2))
end Go.Proofs.YthhihdihkddakaaGreatDoor

/- The program's layer 4: isNegative, size, areCanonical, checkCount: the walks. -/
namespace Go.Proofs.YthhihdihkddakaaGreatDoor
open Go.RowKit

theorem cmp3_lt0 (z : Int) : decide (cmp3 z 0 < 0) = decide (z < 0) := by
  unfold cmp3
  split <;> (try split) <;> simp <;> omega

set_option maxRecDepth 100000 in
set_option maxHeartbeats 1000000 in
theorem aNeg {s : ByteArray} {z : Int} (hs : s.size ≤ 4294967295) (hz : vS s = z) (w : World) :
    Calls Tryz.prog 102 #[.string s] w fun e w' => e = .returned (.bool (decide (z < 0))) ∧ Below w.heap.size w w' := by
  obtain ⟨c, hc⟩ : ∃ c, cmp3 z 0 = c := ⟨_, rfl⟩
  have HD := Lib.hid (show decide (c < 0) = decide (z < 0) by rw [← hc]; exact cmp3_lt0 z)
  have HC := Lib.hid (compare_v w hs (by decide) hz vS_nil hc)
  clear hc hz hs
  go_enter Tryz.func102, Tryz.ntmps102
  go_wp2_with fail
  refine HC.out.mono ?_
  rintro _ w1 ⟨rfl, hB⟩
  go_wp2_with fail
  go_ret
  exact ⟨by rw [HD.out]; simp, hB⟩

set_option maxRecDepth 100000 in
set_option maxHeartbeats 1000000 in
theorem aSize {z : Int} (hs : (cS z).size ≤ 4294967295) (w : World) :
    Calls Tryz.prog 83 #[.string (cS z)] w fun e w' => e = .returned (.string (cS (z.natAbs : Int))) ∧ Below w.heap.size w w' := by
  have HN := Lib.hid (aNeg hs (vS_cS z) w)
  by_cases h : z < 0
  · have hd : decide (z < 0) = true := decide_eq_true h
    have HG := Lib.hid (fun W => neg_v (z := (z.natAbs : Int)) W hs (vS_cS z) (by omega))
    obtain ⟨s, hS⟩ : ∃ s, cS z = s := ⟨_, rfl⟩
    rw [hd, hS] at HN
    rw [hS] at HG ⊢
    clear hs h hd hS
    go_enter Tryz.func83, Tryz.ntmps83
    go_wp2_with fail
    refine HN.out.mono ?_
    rintro _ w1 ⟨rfl, hB⟩
    go_wp2_with fail
    refine (HG.out _).mono ?_
    rintro _ w2 ⟨rfl, rfl⟩
    go_wp2_with fail
    go_ret
    exact ⟨rfl, hB⟩
  · have hd : decide (z < 0) = false := decide_eq_false h
    obtain ⟨s, hS⟩ : ∃ s, cS z = s := ⟨_, rfl⟩
    have HE := Lib.hid (show cS (z.natAbs : Int) = s by rw [← hS]; congr 1; omega)
    rw [hd, hS] at HN
    rw [hS, HE.out]
    clear hs h hd hS HE
    go_enter Tryz.func83, Tryz.ntmps83
    go_wp2_with fail
    refine HN.out.mono ?_
    rintro _ w1 ⟨rfl, hB⟩
    go_wp2_with fail
    go_ret
    exact ⟨rfl, hB⟩

/-- all n strings are canonical -/
def allC (n : Nat) (s : Nat → ByteArray) : Bool := (List.range n).all fun i => isCan (s i)
theorem allC_succ (n : Nat) (s : Nat → ByteArray) : allC (n + 1) s = (allC n s && isCan (s n)) := by unfold allC; rw [List.range_succ, List.all_append]; simp
theorem allC_iff {n : Nat} {s : Nat → ByteArray} : allC n s = true ↔ ∀ i, i < n → isCan (s i) = true := by
  unfold allC; rw [List.all_eq_true]
  exact ⟨fun h i hi => h i (List.mem_range.2 hi), fun h i hi => h i (List.mem_range.1 hi)⟩
theorem allC_false {n k : Nat} {s : Nat → ByteArray} (hk : k < n) (h : isCan (s k) = false) : allC n s = false := by
  cases hc : allC n s with
  | false => rfl
  | true => rw [allC_iff.1 hc k hk] at h; exact h

set_option maxRecDepth 100000 in
set_option maxHeartbeats 1000000 in
theorem aCan (w : World) (xa : Option Addr) (n cap : Nat) (s : Nat → ByteArray) (hr : Rs w xa n s) (hlim : n ≤ 100000) (hz : ∀ i, i < n → (s i).size ≤ 4294967295) :
    Calls Tryz.prog 82 #[.slice xa n cap] w fun e w' => e = .returned (.bool (allC n s)) ∧ w = w' := by
  go_enter Tryz.func82, Tryz.ntmps82
  go_wp2_with fail
  go_loopw [7] (fun iv wr => ∃ k : Nat, k ≤ n ∧ iv = .int .i64 (k : Int) ∧ allC k s = true ∧ wr = w) (fun iv _ => n - (intOf iv).toNat)
  case atStart => exact ⟨0, Nat.zero_le _, rfl, rfl, rfl⟩
  case round =>
    obtain ⟨k, hk, rfl, hl, rfl⟩ := hrel
    have HL := Lib.hid hl
    clear hl
    by_cases hlt : k < n
    · obtain ⟨b, o, rfl, hb, hck⟩ := hr.at hlt
      obtain ⟨sk, hsk⟩ : ∃ sk, s k = sk := ⟨_, rfl⟩
      rw [hsk] at hck
      have HSK := Lib.hid hsk
      have HC := Lib.hid (check_any sk wr (by rw [← hsk]; have := hz k hlt; omega))
      have HR := Lib.hid hr
      have HZ := Lib.hid hz
      clear hsk hr hz
      go_wp2_with fail
      refine HC.out.mono ?_
      rintro e w' ⟨rfl, rfl⟩
      by_cases hs : isCan sk = true
      · have hd : chk sk = 0 := by unfold chk; rw [hs]; rfl
        rw [hd]
        have HT := Lib.hid (show allC (k + 1) s = true by rw [allC_succ, HL.out, HSK.out, hs]; rfl)
        clear hd hs
        go_wp2_with fail
        go_roundw
        case rel => exact ⟨k + 1, by omega, by simp, HT.out, trivial⟩
        case measure => simp [intOf]; omega
      · have hs' : isCan sk = false := by cases h : isCan sk <;> simp_all
        have hd : chk sk = 1 := by unfold chk; rw [hs']; rfl
        rw [hd]
        have HT := Lib.hid (show allC n s = false from allC_false hlt (by rw [HSK.out]; exact hs'))
        clear hd hs hs'
        go_wp2_with fail
        go_ret
        exact ⟨by rw [HT.out]; rfl, rfl⟩
    · obtain rfl : k = n := by omega
      clear hr hz
      go_wp2_with fail
      go_ret
      exact ⟨by rw [HL.out]; rfl, rfl⟩

/-- what is wrong with so many weights -/
def cnt (n : Nat) : Int := if n = 0 then 11 else if 1000 < n then 4 else 0
set_option maxRecDepth 100000 in
set_option maxHeartbeats 1000000 in
theorem aCount (n : Nat) (w : World) (hn : n ≤ 9223372036854775807) :
    Calls Tryz.prog 101 #[.int .i64 (n : Int)] w fun e w' => e = .returned (.int .i64 (cnt n)) ∧ w = w' := by
  by_cases h0 : n = 0
  · subst h0
    go_enter Tryz.func101, Tryz.ntmps101
    go_wp2_with fail
    go_ret
    exact ⟨rfl, rfl⟩
  · have hb : ((n : Int) == 0) = false := by rw [beq_eq_false_iff_ne]; omega
    by_cases h1 : 1000 < n
    · have HC := Lib.hid (show cnt n = 4 by unfold cnt; rw [if_neg h0, if_pos h1])
      have hi : (1000 : Int) < n := by omega
      clear h0 h1
      go_enter Tryz.func101, Tryz.ntmps101
      go_wp2_with fail
      go_ret
      exact ⟨by rw [HC.out]; rfl, rfl⟩
    · have HC := Lib.hid (show cnt n = 0 by unfold cnt; rw [if_neg h0, if_neg h1])
      have hi : ¬ (1000 : Int) < n := by omega
      clear h0 h1
      go_enter Tryz.func101, Tryz.ntmps101
      go_wp2_with fail
      go_ret
      exact ⟨by rw [HC.out]; rfl, rfl⟩

end Go.Proofs.YthhihdihkddakaaGreatDoor
