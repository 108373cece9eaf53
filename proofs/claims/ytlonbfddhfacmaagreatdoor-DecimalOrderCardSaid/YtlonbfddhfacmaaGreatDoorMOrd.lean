/- the law DecimalOrder: the walk. -/
import Derived.Test.YtlonbfddhfacmaaGreatDoorMOrdB
import Derived.Deep.DeepCutAuto
import Derived.Laws.NewBlocks
namespace Go.Proofs.YtlonbfddhfacmaaGreatDoor
open Go.RowKit Fra

set_option maxRecDepth 100000 in
set_option maxHeartbeats 16000000 in
theorem dor_pn (fn fd gn gd n : ByteArray) (k : Int) (w : World) (hG : Ground w) (hf1 : fn.size ≤ 60) (hf2 : fd.size ≤ 60) (hg1 : gn.size ≤ 60) (hg2 : gd.size ≤ 60) (hn : n.size ≤ 60) (hk0 : 0 ≤ k) (hk1 : k ≤ 255) (hs : ¬ (120 : Int) < (fn.size : Int) + fd.size + gn.size + gd.size) (m : Int) (hmk : m = 1 + k % 6) (h2 : 2 ≤ m) (h4 : m ≤ 4) (hsf : ¬ cmpP (raw fn fd) (0, 1) < 0) (hss : cmpP (addP (raw fn fd) (vS n + vS n, 1)) (0, 1) < 0) :
    Calls Tryz.prog 8 #[.agg #[.string fn, .string fd], .agg #[.string gn, .string gd], .string n, .int .u8 k] w fun e w' => e = .returned (.bool true) ∧ Below w.heap.size w w' := by
  have HAW := Lib.hid dawake_any
  have H1 := Lib.hid (longF_false hf1 hf2)
  have H2 := Lib.hid (longF_false hg1 hg2)
  have H3 := Lib.hid (longS_false (s := n) (by omega))
  have hw1 : IntKind.i64.wrap ((fn.size : Int) + fd.size) = (fn.size : Int) + fd.size := IntWalk.i64_in _ (by omega)
  have hw2 : IntKind.i64.wrap ((fn.size : Int) + fd.size + gn.size) = (fn.size : Int) + fd.size + gn.size := IntWalk.i64_in _ (by omega)
  have hw3 : IntKind.i64.wrap ((fn.size : Int) + fd.size + gn.size + gd.size) = (fn.size : Int) + fd.size + gn.size + gd.size := IntWalk.i64_in _ (by omega)
  have hsm : ¬ (120 : Int) < (fn.size : Int) + fd.size + gn.size + gd.size := by omega
  obtain ⟨x, hx⟩ : ∃ x, raw fn fd = x := ⟨_, rfl⟩
  obtain ⟨y, hy⟩ : ∃ y, raw gn gd = y := ⟨_, rfl⟩
  have Hf : Giv 60 fn fd x := ⟨hx, hf1, hf2⟩
  have Hg : Giv 60 gn gd y := ⟨hy, hg1, hg2⟩
  have hcx := Hf.cap (by decide)
  have hxp := Hf.pos
  have hyp := Hg.pos
  obtain ⟨N, hN⟩ : ∃ N, vS n = N := ⟨_, rfl⟩
  have hcN : Cap 60 N := Cap.of hn hN
  obtain ⟨A, hA⟩ : ∃ A, rnd m x = A := ⟨_, rfl⟩
  obtain ⟨B, hB⟩ : ∃ B, rnd m y = B := ⟨_, rfl⟩
  have hcA : Cap 62 A := by rw [← hA]; exact rnd_cap hcx.1 hxp
  have hcB : Cap 62 B := by rw [← hB]; exact rnd_cap (Hg.cap (by decide)).1 hyp
  have HRA := Lib.hid (show Ret 13 #[.agg #[.string fn, .string fd], .int .i64 m] (two (cS A) 0) from round_ok (Hf.arg (by decide)) (by omega) (by omega) hA)
  have HRB := Lib.hid (show Ret 13 #[.agg #[.string gn, .string gd], .int .i64 m] (two (cS B) 0) from round_ok (Hg.arg (by decide)) (by omega) (by omega) hB)
  have HSA := Lib.hid (show (cS A).size ≤ 4294967295 by have := cS_size hcA; omega)
  have HSB := Lib.hid (show (cS B).size ≤ 4294967295 by have := cS_size hcB; omega)
  have hmono : cmpP x y ≤ 0 → A ≤ B := by intro h; rw [← hA, ← hB]; exact rnd_mono hxp hyp h
  have hmono2 : 0 ≤ cmpP x y → B ≤ A := by intro h; rw [← hA, ← hB]; exact rnd_mono' hxp hyp h
  have HCC := Lib.hid (order_ways hmono hmono2)
  have HF := Lib.hid Hf
  have HH := Lib.hid Hg
  have hkw : IntKind.i64.wrap k = k := IntWalk.i64_in _ (by omega)
  have htm : Int.tmod k 6 = m - 1 := by rw [Int.tmod_eq_emod_of_nonneg (by omega)]; omega
  have hem : k % 6 = m - 1 := by omega
  have hw6 : IntKind.i64.wrap (m - 1) = m - 1 := IntWalk.i64_in _ (by omega)
  have hm1 : (1 : Int) + (m - 1) = m := by omega
  have hw7 : IntKind.i64.wrap m = m := IntWalk.i64_in _ (by omega)
  have hm5 : m < 5 := by omega
  have HNL0 := Lib.hid (show n.size ≤ 4294967295 by omega)
  obtain ⟨M, hM⟩ : ∃ M, N + N = M := ⟨_, rfl⟩
  have hcM : Cap 61 M := by rw [← hM]; exact Cap.add hcN hcN
  have HM := Lib.hid hM
  have HN0 := Lib.hid hN
  obtain ⟨S, hS0⟩ : ∃ S, addP x (M, 1) = S := ⟨_, rfl⟩
  have hSp : 0 < S.2 := by rw [← hS0]; exact addP_pos (y := (M, 1)) hxp Int.one_pos
  have hcS : CapP (60 + 61 + 1) S := by rw [← hS0]; exact CapP.add hcx (int_capP hcM (by decide)) hxp Int.one_pos
  have HSU := Lib.hid hS0
  have HSV := Lib.hid (show Val (cS S.1) (cD S.2) S from Val.of hcS hSp (by decide))
  obtain ⟨C, hC⟩ : ∃ C, rnd m S = C := ⟨_, rfl⟩
  have HRC := Lib.hid (show Ret 13 #[.agg #[.string (cS S.1), .string (cD S.2)], .int .i64 m] (two (cS C) 0) from round_ok HSV.out (by omega) (by omega) hC)
  have HNP := Lib.hid (int_val hcM (by decide))
  have HNS := Lib.hid (show (cS M).size ≤ 100000 by have := cS_size hcM; omega)
  have HNL := Lib.hid (show (cS M).size ≤ 4294967295 by have := cS_size hcM; omega)
  have HNV := Lib.hid (vS_cS M)
  obtain ⟨cf, hcf⟩ : ∃ c, cmpP x (0, 1) = c := ⟨_, rfl⟩
  obtain ⟨cs, hcs⟩ : ∃ c, cmpP S (0, 1) = c := ⟨_, rfl⟩
  have HCF := Lib.hid hcf
  have HCS := Lib.hid hcs
  have HMS := Lib.hid (show m = 2 ∨ m = 3 ∨ m = 4 by omega)
  have hnf : ¬ cf < 0 := by rw [← hcf, ← hx]; exact hsf
  have hns : cs < 0 := by rw [← hcs, ← hS0, ← hM, ← hN, ← hx]; exact hss
  clear hf1 hf2 hg1 hg2 hn hx hy Hf Hg hcx hxp hyp hN hcN hA hB hcA hcB hmono hmono2 hS0 hSp hcS hC hcM hk0 hk1 hmk hs hM hcf hcs h2 h4 hsf hss
  obtain ⟨W0, hW0⟩ : ∃ W0, W0 = (w.alloc (.cells #[.string fn, .string fd] 24)).alloc (.cells #[.string gn, .string gd] 24) := ⟨_, rfl⟩
  have hS : StL w W0 [(w.heap.size + 1, gn, gd), (w.heap.size, fn, fd)] := by rw [hW0]; exact StL.two hG _ _ _ _
  go_enter Tryz.func8, Tryz.ntmps8
  go_upto_region 1 with fail
  rw [← hW0]
  clear hW0
  obtain ⟨fp0, fp1, _⟩ := hS.box
  obtain ⟨fx0, fy0, _, _⟩ := fp0.cells
  obtain ⟨fx1, fy1, _, _⟩ := fp1.cells
  go_wp2_with fail
  clear fp0 fx0 fy0 fp1 fx1 fy1
  refine Calls.mono (rLongF fn fd _) ?_
  rintro _ w1 ⟨rfl, hB⟩
  replace hS := hS.next hB
  clear hB
  rw [H1.out]
  obtain ⟨fp0, fp1, _⟩ := hS.box
  obtain ⟨fx0, fy0, _, _⟩ := fp0.cells
  obtain ⟨fx1, fy1, _, _⟩ := fp1.cells
  go_wp2_with fail
  clear fp0 fx0 fy0 fp1 fx1 fy1
  refine Calls.mono (rLongF gn gd _) ?_
  rintro _ w2 ⟨rfl, hB⟩
  replace hS := hS.next hB
  clear hB
  rw [H2.out]
  obtain ⟨fp0, fp1, _⟩ := hS.box
  obtain ⟨fx0, fy0, _, _⟩ := fp0.cells
  obtain ⟨fx1, fy1, _, _⟩ := fp1.cells
  go_wp2_with fail
  clear fp0 fx0 fy0 fp1 fx1 fy1
  refine Calls.mono (rLongI n w2) ?_
  rintro _ _ ⟨rfl, rfl⟩
  rw [H3.out]
  obtain ⟨fp0, fp1, _⟩ := hS.box
  obtain ⟨fx0, fy0, _, _⟩ := fp0.cells
  obtain ⟨fx1, fy1, _, _⟩ := fp1.cells
  go_wp2_with fail
  clear fp0 fx0 fy0 fp1 fx1 fy1
  refine Calls.mono (Ret.call HRA.out _ hS.g) ?_
  rintro _ w3 ⟨rfl, hB⟩
  replace hS := hS.next hB
  clear hB
  obtain ⟨fp0, fp1, _⟩ := hS.box
  obtain ⟨fx0, fy0, _, _⟩ := fp0.cells
  obtain ⟨fx1, fy1, _, _⟩ := fp1.cells
  go_wp2_with fail
  clear fp0 fx0 fy0 fp1 fx1 fy1
  refine Calls.mono (Ret.call HRB.out _ hS.g) ?_
  rintro _ w4 ⟨rfl, hB⟩
  replace hS := hS.next hB
  clear hB
  obtain ⟨fp0, fp1, _⟩ := hS.box
  obtain ⟨fx0, fy0, _, _⟩ := fp0.cells
  obtain ⟨fx1, fy1, _, _⟩ := fp1.cells
  go_upto_region 6 with fail
  clear fp0 fx0 fy0 fp1 fx1 fy1
  have HS := Lib.hid hS
  clear hS
  go_cut [92] (fun s92 wx => s92 = .bool false ∧ StL w wx [(w.heap.size + 1, gn, gd), (w.heap.size, fn, fd)])
  case first =>
    have hS := HS.out
    clear HS
    rcases HCC.out with ⟨hc, d, hd, hd0⟩ | ⟨hc, hd⟩ | ⟨hc, d, hd, hd0⟩
    · have HC := Lib.hid hc
      have HD := Lib.hid hd
      clear hc hd
      obtain ⟨p0, p1, _⟩ := hS.box
      obtain ⟨x0, y0, _, _⟩ := p0.cells
      obtain ⟨x1, y1, _, _⟩ := p1.cells
      go_wp2_with fail
      clear p0 p1 x0 y0 x1 y1
      refine Calls.mono (fCompare_v (c := -1) _ hS.g (HF.out.arg (by decide)) (HH.out.arg (by decide)) HC.out) ?_
      rintro _ u0 ⟨rfl, hB⟩
      replace hS := hS.next hB
      clear hB
      obtain ⟨p0, p1, _⟩ := hS.box
      obtain ⟨x0, y0, _, _⟩ := p0.cells
      obtain ⟨x1, y1, _, _⟩ := p1.cells
      go_wp2_with fail
      clear p0 p1 x0 y0 x1 y1
      refine Calls.mono (compare_v (x := A) (y := B) (z := d) _ HSA.out HSB.out (vS_cS _) (vS_cS _) HD.out) ?_
      rintro _ u1 ⟨rfl, hB⟩
      replace hS := hS.next hB
      clear hB
      obtain ⟨p0, p1, _⟩ := hS.box
      obtain ⟨x0, y0, _, _⟩ := p0.cells
      obtain ⟨x1, y1, _, _⟩ := p1.cells
      go_wp2_with fail
      clear p0 p1 x0 y0 x1 y1
      refine Calls.mono (fCompare_v (c := -1) _ hS.g (HF.out.arg (by decide)) (HH.out.arg (by decide)) HC.out) ?_
      rintro _ u2 ⟨rfl, hB⟩
      replace hS := hS.next hB
      clear hB
      obtain ⟨p0, p1, _⟩ := hS.box
      obtain ⟨x0, y0, _, _⟩ := p0.cells
      obtain ⟨x1, y1, _, _⟩ := p1.cells
      go_wp2_with fail
      go_meet
      exact ⟨congrArg Value.bool (decide_eq_false (by omega)), hS⟩
    · have HC := Lib.hid hc
      have HD := Lib.hid hd
      clear hc hd
      obtain ⟨p0, p1, _⟩ := hS.box
      obtain ⟨x0, y0, _, _⟩ := p0.cells
      obtain ⟨x1, y1, _, _⟩ := p1.cells
      go_wp2_with fail
      clear p0 p1 x0 y0 x1 y1
      refine Calls.mono (fCompare_v (c := 0) _ hS.g (HF.out.arg (by decide)) (HH.out.arg (by decide)) HC.out) ?_
      rintro _ u0 ⟨rfl, hB⟩
      replace hS := hS.next hB
      clear hB
      obtain ⟨p0, p1, _⟩ := hS.box
      obtain ⟨x0, y0, _, _⟩ := p0.cells
      obtain ⟨x1, y1, _, _⟩ := p1.cells
      go_wp2_with fail
      clear p0 p1 x0 y0 x1 y1
      refine Calls.mono (compare_v (x := A) (y := B) (z := 0) _ HSA.out HSB.out (vS_cS _) (vS_cS _) HD.out) ?_
      rintro _ u1 ⟨rfl, hB⟩
      replace hS := hS.next hB
      clear hB
      obtain ⟨p0, p1, _⟩ := hS.box
      obtain ⟨x0, y0, _, _⟩ := p0.cells
      obtain ⟨x1, y1, _, _⟩ := p1.cells
      go_wp2_with fail
      clear p0 p1 x0 y0 x1 y1
      refine Calls.mono (fCompare_v (c := 0) _ hS.g (HF.out.arg (by decide)) (HH.out.arg (by decide)) HC.out) ?_
      rintro _ u2 ⟨rfl, hB⟩
      replace hS := hS.next hB
      clear hB
      obtain ⟨p0, p1, _⟩ := hS.box
      obtain ⟨x0, y0, _, _⟩ := p0.cells
      obtain ⟨x1, y1, _, _⟩ := p1.cells
      go_wp2_with fail
      clear p0 p1 x0 y0 x1 y1
      refine Calls.mono (compare_v (x := A) (y := B) (z := 0) _ HSA.out HSB.out (vS_cS _) (vS_cS _) HD.out) ?_
      rintro _ u3 ⟨rfl, hB⟩
      replace hS := hS.next hB
      clear hB
      obtain ⟨p0, p1, _⟩ := hS.box
      obtain ⟨x0, y0, _, _⟩ := p0.cells
      obtain ⟨x1, y1, _, _⟩ := p1.cells
      go_wp2_with fail
      go_meet
      exact ⟨rfl, hS⟩
    · have HC := Lib.hid hc
      have HD := Lib.hid hd
      clear hc hd
      obtain ⟨p0, p1, _⟩ := hS.box
      obtain ⟨x0, y0, _, _⟩ := p0.cells
      obtain ⟨x1, y1, _, _⟩ := p1.cells
      go_wp2_with fail
      clear p0 p1 x0 y0 x1 y1
      refine Calls.mono (fCompare_v (c := 1) _ hS.g (HF.out.arg (by decide)) (HH.out.arg (by decide)) HC.out) ?_
      rintro _ u0 ⟨rfl, hB⟩
      replace hS := hS.next hB
      clear hB
      obtain ⟨p0, p1, _⟩ := hS.box
      obtain ⟨x0, y0, _, _⟩ := p0.cells
      obtain ⟨x1, y1, _, _⟩ := p1.cells
      go_wp2_with fail
      clear p0 p1 x0 y0 x1 y1
      refine Calls.mono (fCompare_v (c := 1) _ hS.g (HF.out.arg (by decide)) (HH.out.arg (by decide)) HC.out) ?_
      rintro _ u1 ⟨rfl, hB⟩
      replace hS := hS.next hB
      clear hB
      obtain ⟨p0, p1, _⟩ := hS.box
      obtain ⟨x0, y0, _, _⟩ := p0.cells
      obtain ⟨x1, y1, _, _⟩ := p1.cells
      go_wp2_with fail
      clear p0 p1 x0 y0 x1 y1
      refine Calls.mono (compare_v (x := A) (y := B) (z := d) _ HSA.out HSB.out (vS_cS _) (vS_cS _) HD.out) ?_
      rintro _ u2 ⟨rfl, hB⟩
      replace hS := hS.next hB
      clear hB
      obtain ⟨p0, p1, _⟩ := hS.box
      obtain ⟨x0, y0, _, _⟩ := p0.cells
      obtain ⟨x1, y1, _, _⟩ := p1.cells
      go_wp2_with fail
      go_meet
      exact ⟨congrArg Value.bool (decide_eq_false (by omega)), hS⟩
  clear HS
  obtain ⟨rfl, hS⟩ := hcut
  obtain ⟨w5, hw⟩ : ∃ W, W = wc := ⟨_, rfl⟩
  rw [← hw] at hS
  rw [← hw]
  clear hw
  obtain ⟨fp0, fp1, _⟩ := hS.box
  obtain ⟨fx0, fy0, _, _⟩ := fp0.cells
  obtain ⟨fx1, fy1, _, _⟩ := fp1.cells
  go_wp2_with fail
  clear fp0 fx0 fy0 fp1 fx1 fy1
  refine Calls.mono (add_v (x := N) (y := N) (z := M) _ hS.g HNL0.out HNL0.out HN0.out HN0.out HM.out) ?_
  rintro _ w6 ⟨rfl, hB⟩
  replace hS := hS.next hB
  clear hB
  obtain ⟨fp0, fp1, _⟩ := hS.box
  obtain ⟨fx0, fy0, _, _⟩ := fp0.cells
  obtain ⟨fx1, fy1, _, _⟩ := fp1.cells
  go_upto_region 10 with fail
  clear fp0 fx0 fy0 fp1 fx1 fy1
  obtain ⟨fp0, fp1, _⟩ := hS.box
  obtain ⟨fx0, fy0, _, _⟩ := fp0.cells
  obtain ⟨fx1, fy1, _, _⟩ := fp1.cells
  try go_upto_region 10 with fail
  have HS := Lib.hid hS
  clear hS
  have hne0 : w6.heap.size ≠ w.heap.size + 1 := World.new_ne w6 _ fx0
  have hle0_0 : w.heap.size + 1 < w6.heap.size := fp0.lt
  have hne1 : w6.heap.size ≠ w.heap.size := World.new_ne w6 _ fx1
  have hle1_0 : w.heap.size < w6.heap.size := fp1.lt
  go_cut [14] (fun s14 wx => ∃ b6_0 : Nat, s14 = .pointer (some ⟨b6_0, 0, none⟩) ∧ StL w wx [(b6_0, (cS S.1), (cD S.2)), (w.heap.size + 1, gn, gd), (w.heap.size, fn, fd)])
  case first =>
    go_region_held3 (fun w' => w'.cell? ⟨w.heap.size + 1, 0, none⟩ = some (.string gn) ∧ w'.cell? ⟨w.heap.size + 1, 1, none⟩ = some (.string gd) ∧ w'.cell? ⟨w.heap.size, 0, none⟩ = some (.string fn) ∧ w'.cell? ⟨w.heap.size, 1, none⟩ = some (.string fd))
      (go_keep)
      (first
    | (go_at_call 31;
         (with_reducible refine Calls.mono (fOf_v (p := M) _ (by first | exact HS.out.g | exact HS.out.drew.g | exact (HS.out.drewN _).g | exact (HS.out.other _).g | exact (HS.out.drew.other _).g | exact (HS.out.other _).drew.g | exact ((HS.out.other _).other _).g | exact ((HS.out.drew.other _).other _).g | exact ((HS.out.other _).other _).drew.g | exact ((HS.out.drew.other _).drew.other _).g | exact ((HS.out.other _).drew.other _).g) HNS.out HNV.out) ?_);
         (rintro e X6_1 ⟨rfl, hB1⟩);
         (first
           | ((have HS2 : StL w X6_1 ([(w.heap.size + 1, gn, gd), (w.heap.size, fn, fd)]) := (by first | exact HS.out.next hB1 | exact HS.out.next1 hB1 | exact HS.out.nextD hB1 | exact (HS.out.alloc _ _).next hB1 | exact (HS.out.drew.alloc _ _).next hB1 | exact (HS.out.alloc _ _).drew.next hB1 | exact (HS.out.alloc2 _ _ _ _).next hB1 | exact (HS.out.drew.alloc2 _ _ _ _).next hB1 | exact (HS.out.alloc2 _ _ _ _).drew.next hB1)); (replace HS := Lib.hid HS2); (clear HS2); (obtain ⟨fp0, fp1, _⟩ := HS.out.box); (obtain ⟨fx0, fy0, _, _⟩ := fp0.cells); (obtain ⟨fx1, fy1, _, _⟩ := fp1.cells); (have hle0_1 : w.heap.size + 1 < X6_1.heap.size := fp0.lt); (have hle1_1 : w.heap.size < X6_1.heap.size := fp1.lt))
           | ((have HS2 : StL w X6_1 ((w6.heap.size, ⟨#[]⟩, ⟨#[]⟩) :: [(w.heap.size + 1, gn, gd), (w.heap.size, fn, fd)]) := (by first | exact HS.out.next hB1 | exact HS.out.next1 hB1 | exact HS.out.nextD hB1 | exact (HS.out.alloc _ _).next hB1 | exact (HS.out.drew.alloc _ _).next hB1 | exact (HS.out.alloc _ _).drew.next hB1 | exact (HS.out.alloc2 _ _ _ _).next hB1 | exact (HS.out.drew.alloc2 _ _ _ _).next hB1 | exact (HS.out.alloc2 _ _ _ _).drew.next hB1)); (replace HS := Lib.hid HS2); (clear HS2); (obtain ⟨pn0, fp0, fp1, _⟩ := HS.out.box); (obtain ⟨nx0, ny0, nz0, nw0⟩ := pn0.cells); (have hnp0 : X6_1.heap.size ≠ w6.heap.size := World.new_ne _ _ nx0); (have hnq0 : w6.heap.size < X6_1.heap.size := pn0.lt); (obtain ⟨fx0, fy0, _, _⟩ := fp0.cells); (obtain ⟨fx1, fy1, _, _⟩ := fp1.cells); (have hle0_1 : w.heap.size + 1 < X6_1.heap.size := fp0.lt); (have hle1_1 : w.heap.size < X6_1.heap.size := fp1.lt); (have hnr0_0 : w6.heap.size ≠ w.heap.size + 1 := (by omega)); (have hnr0_1 : w6.heap.size ≠ w.heap.size := (by omega))));
         (clear hB1);
         (have hne0 : X6_1.heap.size ≠ w.heap.size + 1 := World.new_ne X6_1 _ fx0);
         (have hne1 : X6_1.heap.size ≠ w.heap.size := World.new_ne X6_1 _ fx1))
    | (go_at_call 39;
         (with_reducible refine Calls.mono (fAdd_v (z := S) _ (by first | exact HS.out.g | exact HS.out.drew.g | exact (HS.out.drewN _).g | exact (HS.out.other _).g | exact (HS.out.drew.other _).g | exact (HS.out.other _).drew.g | exact ((HS.out.other _).other _).g | exact ((HS.out.drew.other _).other _).g | exact ((HS.out.other _).other _).drew.g | exact ((HS.out.drew.other _).drew.other _).g | exact ((HS.out.other _).drew.other _).g) (HF.out.arg (by decide)) HNP.out HSU.out) ?_);
         (rintro e X6_2 ⟨rfl, hB1⟩);
         (first
           | ((have HS2 : StL w X6_2 ([(w.heap.size + 1, gn, gd), (w.heap.size, fn, fd)]) := (by first | exact HS.out.next hB1 | exact HS.out.next1 hB1 | exact HS.out.nextD hB1 | exact (HS.out.alloc _ _).next hB1 | exact (HS.out.drew.alloc _ _).next hB1 | exact (HS.out.alloc _ _).drew.next hB1 | exact (HS.out.alloc2 _ _ _ _).next hB1 | exact (HS.out.drew.alloc2 _ _ _ _).next hB1 | exact (HS.out.alloc2 _ _ _ _).drew.next hB1)); (replace HS := Lib.hid HS2); (clear HS2); (obtain ⟨fp0, fp1, _⟩ := HS.out.box); (obtain ⟨fx0, fy0, _, _⟩ := fp0.cells); (obtain ⟨fx1, fy1, _, _⟩ := fp1.cells); (have hle0_2 : w.heap.size + 1 < X6_2.heap.size := fp0.lt); (have hle1_2 : w.heap.size < X6_2.heap.size := fp1.lt))
           | ((have HS2 : StL w X6_2 ((X6_1.heap.size, ⟨#[]⟩, ⟨#[]⟩) :: [(w.heap.size + 1, gn, gd), (w.heap.size, fn, fd)]) := (by first | exact HS.out.next hB1 | exact HS.out.next1 hB1 | exact HS.out.nextD hB1 | exact (HS.out.alloc _ _).next hB1 | exact (HS.out.drew.alloc _ _).next hB1 | exact (HS.out.alloc _ _).drew.next hB1 | exact (HS.out.alloc2 _ _ _ _).next hB1 | exact (HS.out.drew.alloc2 _ _ _ _).next hB1 | exact (HS.out.alloc2 _ _ _ _).drew.next hB1)); (replace HS := Lib.hid HS2); (clear HS2); (obtain ⟨pn0, fp0, fp1, _⟩ := HS.out.box); (obtain ⟨nx0, ny0, nz0, nw0⟩ := pn0.cells); (have hnp0 : X6_2.heap.size ≠ X6_1.heap.size := World.new_ne _ _ nx0); (have hnq0 : X6_1.heap.size < X6_2.heap.size := pn0.lt); (obtain ⟨fx0, fy0, _, _⟩ := fp0.cells); (obtain ⟨fx1, fy1, _, _⟩ := fp1.cells); (have hle0_2 : w.heap.size + 1 < X6_2.heap.size := fp0.lt); (have hle1_2 : w.heap.size < X6_2.heap.size := fp1.lt); (have hnr0_0 : X6_1.heap.size ≠ w.heap.size + 1 := (by omega)); (have hnr0_1 : X6_1.heap.size ≠ w.heap.size := (by omega)))
           | ((have HS2 : StL w X6_2 ((w6.heap.size, ⟨#[]⟩, ⟨#[]⟩) :: [(w.heap.size + 1, gn, gd), (w.heap.size, fn, fd)]) := (by first | exact HS.out.next hB1 | exact HS.out.next1 hB1 | exact HS.out.nextD hB1 | exact (HS.out.alloc _ _).next hB1 | exact (HS.out.drew.alloc _ _).next hB1 | exact (HS.out.alloc _ _).drew.next hB1 | exact (HS.out.alloc2 _ _ _ _).next hB1 | exact (HS.out.drew.alloc2 _ _ _ _).next hB1 | exact (HS.out.alloc2 _ _ _ _).drew.next hB1)); (replace HS := Lib.hid HS2); (clear HS2); (obtain ⟨pn0, fp0, fp1, _⟩ := HS.out.box); (obtain ⟨nx0, ny0, nz0, nw0⟩ := pn0.cells); (have hnp0 : X6_2.heap.size ≠ w6.heap.size := World.new_ne _ _ nx0); (have hnq0 : w6.heap.size < X6_2.heap.size := pn0.lt); (obtain ⟨fx0, fy0, _, _⟩ := fp0.cells); (obtain ⟨fx1, fy1, _, _⟩ := fp1.cells); (have hle0_2 : w.heap.size + 1 < X6_2.heap.size := fp0.lt); (have hle1_2 : w.heap.size < X6_2.heap.size := fp1.lt); (have hnr0_0 : w6.heap.size ≠ w.heap.size + 1 := (by omega)); (have hnr0_1 : w6.heap.size ≠ w.heap.size := (by omega))));
         (clear hB1);
         (have hne0 : X6_2.heap.size ≠ w.heap.size + 1 := World.new_ne X6_2 _ fx0);
         (have hne1 : X6_2.heap.size ≠ w.heap.size := World.new_ne X6_2 _ fx1)))
    all_goals go_wp2_with fail
    all_goals go_meet
    all_goals refine ⟨_, rfl, ?_⟩
    all_goals first
      | with_reducible exact HS.out.alloc _ _
      | with_reducible exact StL.fill hG HS.out _ _
      | with_reducible exact (HS.out.alloc _ _).drew
      | with_reducible exact HS.out.drew.alloc _ _
      | with_reducible exact StL.fill hG HS.out.drew _ _
      | with_reducible exact (HS.out.drew.alloc _ _).drew
  clear HS hne0 hle0_0 hne1 hle1_0
  clear fp0 fx0 fy0 fp1 fx1 fy1
  obtain ⟨b6_0, rfl, hS⟩ := hcut
  obtain ⟨w7, hw⟩ : ∃ W, W = wc := ⟨_, rfl⟩
  rw [← hw] at hS
  rw [← hw]
  clear hw
  obtain ⟨fp0, fp1, fp2, _⟩ := hS.box
  obtain ⟨fx0, fy0, _, _⟩ := fp0.cells
  obtain ⟨fx1, fy1, _, _⟩ := fp1.cells
  obtain ⟨fx2, fy2, _, _⟩ := fp2.cells
  go_wp2_with fail
  clear fp0 fx0 fy0 fp1 fx1 fy1 fp2 fx2 fy2
  refine Calls.mono (ratio_0_1.call _ hS.g) ?_
  rintro _ w8 ⟨rfl, hB⟩
  replace hS := hS.next hB
  clear hB
  go_upto_region 12 with fail
  obtain ⟨b9, hb9⟩ : ∃ b, b = w8.heap.size := ⟨_, rfl⟩
  obtain ⟨V9, hV9⟩ : ∃ V, V = w8.alloc (.cells #[.string ⟨#[]⟩, .string ⟨#[]⟩] 24) := ⟨_, rfl⟩
  have hT : StL w V9 [(b9, ⟨#[]⟩, ⟨#[]⟩), (b6_0, (cS S.1), (cD S.2)), (w.heap.size + 1, gn, gd), (w.heap.size, fn, fd)] := by rw [hV9, hb9]; exact hS.alloc _ _
  rw [← hb9, ← hV9]
  clear hV9 hb9 hS
  have hS := hT
  clear hT
  obtain ⟨fp0, fp1, fp2, fp3, _⟩ := hS.box
  obtain ⟨fx0, fy0, _, _⟩ := fp0.cells
  obtain ⟨fx1, fy1, _, _⟩ := fp1.cells
  obtain ⟨fx2, fy2, _, _⟩ := fp2.cells
  obtain ⟨fx3, fy3, _, _⟩ := fp3.cells
  try go_upto_region 12 with fail
  have HS := Lib.hid hS
  clear hS
  go_cut [115] (fun s115 wx => s115 = .bool true ∧ StL w wx [(b9, ⟨#[]⟩, ⟨#[]⟩), (b6_0, (cS S.1), (cD S.2)), (w.heap.size + 1, gn, gd), (w.heap.size, fn, fd)])
  case first =>
    rcases HMS.out with rfl | rfl | rfl
    · go_region_held3 (fun w' => w'.cell? ⟨b9, 0, none⟩ = some (.string ⟨#[]⟩) ∧ w'.cell? ⟨b9, 1, none⟩ = some (.string ⟨#[]⟩) ∧ w'.cell? ⟨b6_0, 0, none⟩ = some (.string (cS S.1)) ∧ w'.cell? ⟨b6_0, 1, none⟩ = some (.string (cD S.2)) ∧ w'.cell? ⟨w.heap.size + 1, 0, none⟩ = some (.string gn) ∧ w'.cell? ⟨w.heap.size + 1, 1, none⟩ = some (.string gd) ∧ w'.cell? ⟨w.heap.size, 0, none⟩ = some (.string fn) ∧ w'.cell? ⟨w.heap.size, 1, none⟩ = some (.string fd))
        (go_keep)
        (first
        | (go_at_call 29;
             (first
               | (with_reducible refine Calls.mono (fCompare_v (c := cf) _ (by first | exact HS.out.g | exact HS.out.drew.g | exact (HS.out.drewN _).g) (HF.out.arg (by decide)) Val.zero HCF.out) ?_)
               | (with_reducible refine Calls.mono (fCompare_v (c := cs) _ (by first | exact HS.out.g | exact HS.out.drew.g | exact (HS.out.drewN _).g) HSV.out Val.zero HCS.out) ?_));
             (rintro e WX ⟨rfl, hB1⟩);
             (have HS2 : StL w WX [(b9, ⟨#[]⟩, ⟨#[]⟩), (b6_0, (cS S.1), (cD S.2)), (w.heap.size + 1, gn, gd), (w.heap.size, fn, fd)] := (by first | exact HS.out.next hB1 | exact HS.out.next1 hB1 | exact HS.out.nextD hB1));
             (replace HS := Lib.hid HS2);
             (clear hB1 HS2);
             (obtain ⟨fp0, fp1, fp2, fp3, _⟩ := HS.out.box);
             (obtain ⟨fx0, fy0, _, _⟩ := fp0.cells);
             (obtain ⟨fx1, fy1, _, _⟩ := fp1.cells);
             (obtain ⟨fx2, fy2, _, _⟩ := fp2.cells);
             (obtain ⟨fx3, fy3, _, _⟩ := fp3.cells)))
      all_goals go_wp2_with fail
      all_goals go_meet
      all_goals exact ⟨congrArg Value.bool (by first | rfl | (simp; omega)), (by first | exact HS.out | exact HS.out.drew | exact HS.out.drewN _)⟩
    · go_region_held3 (fun w' => w'.cell? ⟨b9, 0, none⟩ = some (.string ⟨#[]⟩) ∧ w'.cell? ⟨b9, 1, none⟩ = some (.string ⟨#[]⟩) ∧ w'.cell? ⟨b6_0, 0, none⟩ = some (.string (cS S.1)) ∧ w'.cell? ⟨b6_0, 1, none⟩ = some (.string (cD S.2)) ∧ w'.cell? ⟨w.heap.size + 1, 0, none⟩ = some (.string gn) ∧ w'.cell? ⟨w.heap.size + 1, 1, none⟩ = some (.string gd) ∧ w'.cell? ⟨w.heap.size, 0, none⟩ = some (.string fn) ∧ w'.cell? ⟨w.heap.size, 1, none⟩ = some (.string fd))
        (go_keep)
        (first
        | (go_at_call 29;
             (first
               | (with_reducible refine Calls.mono (fCompare_v (c := cf) _ (by first | exact HS.out.g | exact HS.out.drew.g | exact (HS.out.drewN _).g) (HF.out.arg (by decide)) Val.zero HCF.out) ?_)
               | (with_reducible refine Calls.mono (fCompare_v (c := cs) _ (by first | exact HS.out.g | exact HS.out.drew.g | exact (HS.out.drewN _).g) HSV.out Val.zero HCS.out) ?_));
             (rintro e WX ⟨rfl, hB1⟩);
             (have HS2 : StL w WX [(b9, ⟨#[]⟩, ⟨#[]⟩), (b6_0, (cS S.1), (cD S.2)), (w.heap.size + 1, gn, gd), (w.heap.size, fn, fd)] := (by first | exact HS.out.next hB1 | exact HS.out.next1 hB1 | exact HS.out.nextD hB1));
             (replace HS := Lib.hid HS2);
             (clear hB1 HS2);
             (obtain ⟨fp0, fp1, fp2, fp3, _⟩ := HS.out.box);
             (obtain ⟨fx0, fy0, _, _⟩ := fp0.cells);
             (obtain ⟨fx1, fy1, _, _⟩ := fp1.cells);
             (obtain ⟨fx2, fy2, _, _⟩ := fp2.cells);
             (obtain ⟨fx3, fy3, _, _⟩ := fp3.cells)))
      all_goals go_wp2_with fail
      all_goals go_meet
      all_goals exact ⟨congrArg Value.bool (by first | rfl | (simp; omega)), (by first | exact HS.out | exact HS.out.drew | exact HS.out.drewN _)⟩
    · go_region_held3 (fun w' => w'.cell? ⟨b9, 0, none⟩ = some (.string ⟨#[]⟩) ∧ w'.cell? ⟨b9, 1, none⟩ = some (.string ⟨#[]⟩) ∧ w'.cell? ⟨b6_0, 0, none⟩ = some (.string (cS S.1)) ∧ w'.cell? ⟨b6_0, 1, none⟩ = some (.string (cD S.2)) ∧ w'.cell? ⟨w.heap.size + 1, 0, none⟩ = some (.string gn) ∧ w'.cell? ⟨w.heap.size + 1, 1, none⟩ = some (.string gd) ∧ w'.cell? ⟨w.heap.size, 0, none⟩ = some (.string fn) ∧ w'.cell? ⟨w.heap.size, 1, none⟩ = some (.string fd))
        (go_keep)
        (first
        | (go_at_call 29;
             (first
               | (with_reducible refine Calls.mono (fCompare_v (c := cf) _ (by first | exact HS.out.g | exact HS.out.drew.g | exact (HS.out.drewN _).g) (HF.out.arg (by decide)) Val.zero HCF.out) ?_)
               | (with_reducible refine Calls.mono (fCompare_v (c := cs) _ (by first | exact HS.out.g | exact HS.out.drew.g | exact (HS.out.drewN _).g) HSV.out Val.zero HCS.out) ?_));
             (rintro e WX ⟨rfl, hB1⟩);
             (have HS2 : StL w WX [(b9, ⟨#[]⟩, ⟨#[]⟩), (b6_0, (cS S.1), (cD S.2)), (w.heap.size + 1, gn, gd), (w.heap.size, fn, fd)] := (by first | exact HS.out.next hB1 | exact HS.out.next1 hB1 | exact HS.out.nextD hB1));
             (replace HS := Lib.hid HS2);
             (clear hB1 HS2);
             (obtain ⟨fp0, fp1, fp2, fp3, _⟩ := HS.out.box);
             (obtain ⟨fx0, fy0, _, _⟩ := fp0.cells);
             (obtain ⟨fx1, fy1, _, _⟩ := fp1.cells);
             (obtain ⟨fx2, fy2, _, _⟩ := fp2.cells);
             (obtain ⟨fx3, fy3, _, _⟩ := fp3.cells)))
      all_goals go_wp2_with fail
      all_goals go_meet
      all_goals exact ⟨congrArg Value.bool (by first | rfl | (simp; omega)), (by first | exact HS.out | exact HS.out.drew | exact HS.out.drewN _)⟩
  clear HS
  clear fp0 fx0 fy0 fp1 fx1 fy1 fp2 fx2 fy2 fp3 fx3 fy3
  obtain ⟨rfl, hS⟩ := hcut
  obtain ⟨w10, hw⟩ : ∃ W, W = wc := ⟨_, rfl⟩
  rw [← hw] at hS
  rw [← hw]
  clear hw
  obtain ⟨fp0, fp1, fp2, fp3, _⟩ := hS.box
  obtain ⟨fx0, fy0, _, _⟩ := fp0.cells
  obtain ⟨fx1, fy1, _, _⟩ := fp1.cells
  obtain ⟨fx2, fy2, _, _⟩ := fp2.cells
  obtain ⟨fx3, fy3, _, _⟩ := fp3.cells
  go_wp2_with fail
  clear fp0 fx0 fy0 fp1 fx1 fy1 fp2 fx2 fy2 fp3 fx3 fy3
  refine Calls.mono (Ret.call HAW.out _ hS.g) ?_
  rintro _ w11 ⟨rfl, hB⟩
  replace hS := hS.next hB
  clear hB
  obtain ⟨fp0, fp1, fp2, fp3, _⟩ := hS.box
  obtain ⟨fx0, fy0, _, _⟩ := fp0.cells
  obtain ⟨fx1, fy1, _, _⟩ := fp1.cells
  obtain ⟨fx2, fy2, _, _⟩ := fp2.cells
  obtain ⟨fx3, fy3, _, _⟩ := fp3.cells
  go_wp2_with fail
  go_ret
  exact ⟨rfl, hS.below⟩

set_option maxRecDepth 100000 in
set_option maxHeartbeats 16000000 in
theorem dor_pp (fn fd gn gd n : ByteArray) (k : Int) (w : World) (hG : Ground w) (hf1 : fn.size ≤ 60) (hf2 : fd.size ≤ 60) (hg1 : gn.size ≤ 60) (hg2 : gd.size ≤ 60) (hn : n.size ≤ 60) (hk0 : 0 ≤ k) (hk1 : k ≤ 255) (hs : ¬ (120 : Int) < (fn.size : Int) + fd.size + gn.size + gd.size) (m : Int) (hmk : m = 1 + k % 6) (h2 : 2 ≤ m) (h4 : m ≤ 4) (hsf : ¬ cmpP (raw fn fd) (0, 1) < 0) (hss : ¬ cmpP (addP (raw fn fd) (vS n + vS n, 1)) (0, 1) < 0) :
    Calls Tryz.prog 8 #[.agg #[.string fn, .string fd], .agg #[.string gn, .string gd], .string n, .int .u8 k] w fun e w' => e = .returned (.bool true) ∧ Below w.heap.size w w' := by
  have HAW := Lib.hid dawake_any
  have H1 := Lib.hid (longF_false hf1 hf2)
  have H2 := Lib.hid (longF_false hg1 hg2)
  have H3 := Lib.hid (longS_false (s := n) (by omega))
  have hw1 : IntKind.i64.wrap ((fn.size : Int) + fd.size) = (fn.size : Int) + fd.size := IntWalk.i64_in _ (by omega)
  have hw2 : IntKind.i64.wrap ((fn.size : Int) + fd.size + gn.size) = (fn.size : Int) + fd.size + gn.size := IntWalk.i64_in _ (by omega)
  have hw3 : IntKind.i64.wrap ((fn.size : Int) + fd.size + gn.size + gd.size) = (fn.size : Int) + fd.size + gn.size + gd.size := IntWalk.i64_in _ (by omega)
  have hsm : ¬ (120 : Int) < (fn.size : Int) + fd.size + gn.size + gd.size := by omega
  obtain ⟨x, hx⟩ : ∃ x, raw fn fd = x := ⟨_, rfl⟩
  obtain ⟨y, hy⟩ : ∃ y, raw gn gd = y := ⟨_, rfl⟩
  have Hf : Giv 60 fn fd x := ⟨hx, hf1, hf2⟩
  have Hg : Giv 60 gn gd y := ⟨hy, hg1, hg2⟩
  have hcx := Hf.cap (by decide)
  have hxp := Hf.pos
  have hyp := Hg.pos
  obtain ⟨N, hN⟩ : ∃ N, vS n = N := ⟨_, rfl⟩
  have hcN : Cap 60 N := Cap.of hn hN
  obtain ⟨A, hA⟩ : ∃ A, rnd m x = A := ⟨_, rfl⟩
  obtain ⟨B, hB⟩ : ∃ B, rnd m y = B := ⟨_, rfl⟩
  have hcA : Cap 62 A := by rw [← hA]; exact rnd_cap hcx.1 hxp
  have hcB : Cap 62 B := by rw [← hB]; exact rnd_cap (Hg.cap (by decide)).1 hyp
  have HRA := Lib.hid (show Ret 13 #[.agg #[.string fn, .string fd], .int .i64 m] (two (cS A) 0) from round_ok (Hf.arg (by decide)) (by omega) (by omega) hA)
  have HRB := Lib.hid (show Ret 13 #[.agg #[.string gn, .string gd], .int .i64 m] (two (cS B) 0) from round_ok (Hg.arg (by decide)) (by omega) (by omega) hB)
  have HSA := Lib.hid (show (cS A).size ≤ 4294967295 by have := cS_size hcA; omega)
  have HSB := Lib.hid (show (cS B).size ≤ 4294967295 by have := cS_size hcB; omega)
  have hmono : cmpP x y ≤ 0 → A ≤ B := by intro h; rw [← hA, ← hB]; exact rnd_mono hxp hyp h
  have hmono2 : 0 ≤ cmpP x y → B ≤ A := by intro h; rw [← hA, ← hB]; exact rnd_mono' hxp hyp h
  have HCC := Lib.hid (order_ways hmono hmono2)
  have HF := Lib.hid Hf
  have HH := Lib.hid Hg
  have hkw : IntKind.i64.wrap k = k := IntWalk.i64_in _ (by omega)
  have htm : Int.tmod k 6 = m - 1 := by rw [Int.tmod_eq_emod_of_nonneg (by omega)]; omega
  have hem : k % 6 = m - 1 := by omega
  have hw6 : IntKind.i64.wrap (m - 1) = m - 1 := IntWalk.i64_in _ (by omega)
  have hm1 : (1 : Int) + (m - 1) = m := by omega
  have hw7 : IntKind.i64.wrap m = m := IntWalk.i64_in _ (by omega)
  have hm5 : m < 5 := by omega
  have HNL0 := Lib.hid (show n.size ≤ 4294967295 by omega)
  obtain ⟨M, hM⟩ : ∃ M, N + N = M := ⟨_, rfl⟩
  have hcM : Cap 61 M := by rw [← hM]; exact Cap.add hcN hcN
  have HM := Lib.hid hM
  have HN0 := Lib.hid hN
  obtain ⟨S, hS0⟩ : ∃ S, addP x (M, 1) = S := ⟨_, rfl⟩
  have hSp : 0 < S.2 := by rw [← hS0]; exact addP_pos (y := (M, 1)) hxp Int.one_pos
  have hcS : CapP (60 + 61 + 1) S := by rw [← hS0]; exact CapP.add hcx (int_capP hcM (by decide)) hxp Int.one_pos
  have HSU := Lib.hid hS0
  have HSV := Lib.hid (show Val (cS S.1) (cD S.2) S from Val.of hcS hSp (by decide))
  obtain ⟨C, hC⟩ : ∃ C, rnd m S = C := ⟨_, rfl⟩
  have HRC := Lib.hid (show Ret 13 #[.agg #[.string (cS S.1), .string (cD S.2)], .int .i64 m] (two (cS C) 0) from round_ok HSV.out (by omega) (by omega) hC)
  have HNP := Lib.hid (int_val hcM (by decide))
  have HNS := Lib.hid (show (cS M).size ≤ 100000 by have := cS_size hcM; omega)
  have HNL := Lib.hid (show (cS M).size ≤ 4294967295 by have := cS_size hcM; omega)
  have HNV := Lib.hid (vS_cS M)
  obtain ⟨cf, hcf⟩ : ∃ c, cmpP x (0, 1) = c := ⟨_, rfl⟩
  obtain ⟨cs, hcs⟩ : ∃ c, cmpP S (0, 1) = c := ⟨_, rfl⟩
  have HCF := Lib.hid hcf
  have HCS := Lib.hid hcs
  have HMS := Lib.hid (show m = 2 ∨ m = 3 ∨ m = 4 by omega)
  have hnf : ¬ cf < 0 := by rw [← hcf, ← hx]; exact hsf
  have hns : ¬ cs < 0 := by rw [← hcs, ← hS0, ← hM, ← hN, ← hx]; exact hss
  have HAC := Lib.hid (show A + M = C by
    rw [← hA, ← hC, ← hS0]
    refine (rnd_sum hxp (by right; right; refine ⟨by omega, Or.inr ?_⟩; rw [hS0, hcf, hcs]; exact ⟨fun h => absurd h hnf, fun h => absurd h hns⟩)).symm)
  clear hf1 hf2 hg1 hg2 hn hx hy Hf Hg hcx hxp hyp hN hcN hA hB hcA hcB hmono hmono2 hS0 hSp hcS hC hcM hk0 hk1 hmk hs hM hcf hcs h2 h4 hsf hss
  obtain ⟨W0, hW0⟩ : ∃ W0, W0 = (w.alloc (.cells #[.string fn, .string fd] 24)).alloc (.cells #[.string gn, .string gd] 24) := ⟨_, rfl⟩
  have hS : StL w W0 [(w.heap.size + 1, gn, gd), (w.heap.size, fn, fd)] := by rw [hW0]; exact StL.two hG _ _ _ _
  go_enter Tryz.func8, Tryz.ntmps8
  go_upto_region 1 with fail
  rw [← hW0]
  clear hW0
  obtain ⟨fp0, fp1, _⟩ := hS.box
  obtain ⟨fx0, fy0, _, _⟩ := fp0.cells
  obtain ⟨fx1, fy1, _, _⟩ := fp1.cells
  go_wp2_with fail
  clear fp0 fx0 fy0 fp1 fx1 fy1
  refine Calls.mono (rLongF fn fd _) ?_
  rintro _ w1 ⟨rfl, hB⟩
  replace hS := hS.next hB
  clear hB
  rw [H1.out]
  obtain ⟨fp0, fp1, _⟩ := hS.box
  obtain ⟨fx0, fy0, _, _⟩ := fp0.cells
  obtain ⟨fx1, fy1, _, _⟩ := fp1.cells
  go_wp2_with fail
  clear fp0 fx0 fy0 fp1 fx1 fy1
  refine Calls.mono (rLongF gn gd _) ?_
  rintro _ w2 ⟨rfl, hB⟩
  replace hS := hS.next hB
  clear hB
  rw [H2.out]
  obtain ⟨fp0, fp1, _⟩ := hS.box
  obtain ⟨fx0, fy0, _, _⟩ := fp0.cells
  obtain ⟨fx1, fy1, _, _⟩ := fp1.cells
  go_wp2_with fail
  clear fp0 fx0 fy0 fp1 fx1 fy1
  refine Calls.mono (rLongI n w2) ?_
  rintro _ _ ⟨rfl, rfl⟩
  rw [H3.out]
  obtain ⟨fp0, fp1, _⟩ := hS.box
  obtain ⟨fx0, fy0, _, _⟩ := fp0.cells
  obtain ⟨fx1, fy1, _, _⟩ := fp1.cells
  go_wp2_with fail
  clear fp0 fx0 fy0 fp1 fx1 fy1
  refine Calls.mono (Ret.call HRA.out _ hS.g) ?_
  rintro _ w3 ⟨rfl, hB⟩
  replace hS := hS.next hB
  clear hB
  obtain ⟨fp0, fp1, _⟩ := hS.box
  obtain ⟨fx0, fy0, _, _⟩ := fp0.cells
  obtain ⟨fx1, fy1, _, _⟩ := fp1.cells
  go_wp2_with fail
  clear fp0 fx0 fy0 fp1 fx1 fy1
  refine Calls.mono (Ret.call HRB.out _ hS.g) ?_
  rintro _ w4 ⟨rfl, hB⟩
  replace hS := hS.next hB
  clear hB
  obtain ⟨fp0, fp1, _⟩ := hS.box
  obtain ⟨fx0, fy0, _, _⟩ := fp0.cells
  obtain ⟨fx1, fy1, _, _⟩ := fp1.cells
  go_upto_region 6 with fail
  clear fp0 fx0 fy0 fp1 fx1 fy1
  have HS := Lib.hid hS
  clear hS
  go_cut [92] (fun s92 wx => s92 = .bool false ∧ StL w wx [(w.heap.size + 1, gn, gd), (w.heap.size, fn, fd)])
  case first =>
    have hS := HS.out
    clear HS
    rcases HCC.out with ⟨hc, d, hd, hd0⟩ | ⟨hc, hd⟩ | ⟨hc, d, hd, hd0⟩
    · have HC := Lib.hid hc
      have HD := Lib.hid hd
      clear hc hd
      obtain ⟨p0, p1, _⟩ := hS.box
      obtain ⟨x0, y0, _, _⟩ := p0.cells
      obtain ⟨x1, y1, _, _⟩ := p1.cells
      go_wp2_with fail
      clear p0 p1 x0 y0 x1 y1
      refine Calls.mono (fCompare_v (c := -1) _ hS.g (HF.out.arg (by decide)) (HH.out.arg (by decide)) HC.out) ?_
      rintro _ u0 ⟨rfl, hB⟩
      replace hS := hS.next hB
      clear hB
      obtain ⟨p0, p1, _⟩ := hS.box
      obtain ⟨x0, y0, _, _⟩ := p0.cells
      obtain ⟨x1, y1, _, _⟩ := p1.cells
      go_wp2_with fail
      clear p0 p1 x0 y0 x1 y1
      refine Calls.mono (compare_v (x := A) (y := B) (z := d) _ HSA.out HSB.out (vS_cS _) (vS_cS _) HD.out) ?_
      rintro _ u1 ⟨rfl, hB⟩
      replace hS := hS.next hB
      clear hB
      obtain ⟨p0, p1, _⟩ := hS.box
      obtain ⟨x0, y0, _, _⟩ := p0.cells
      obtain ⟨x1, y1, _, _⟩ := p1.cells
      go_wp2_with fail
      clear p0 p1 x0 y0 x1 y1
      refine Calls.mono (fCompare_v (c := -1) _ hS.g (HF.out.arg (by decide)) (HH.out.arg (by decide)) HC.out) ?_
      rintro _ u2 ⟨rfl, hB⟩
      replace hS := hS.next hB
      clear hB
      obtain ⟨p0, p1, _⟩ := hS.box
      obtain ⟨x0, y0, _, _⟩ := p0.cells
      obtain ⟨x1, y1, _, _⟩ := p1.cells
      go_wp2_with fail
      go_meet
      exact ⟨congrArg Value.bool (decide_eq_false (by omega)), hS⟩
    · have HC := Lib.hid hc
      have HD := Lib.hid hd
      clear hc hd
      obtain ⟨p0, p1, _⟩ := hS.box
      obtain ⟨x0, y0, _, _⟩ := p0.cells
      obtain ⟨x1, y1, _, _⟩ := p1.cells
      go_wp2_with fail
      clear p0 p1 x0 y0 x1 y1
      refine Calls.mono (fCompare_v (c := 0) _ hS.g (HF.out.arg (by decide)) (HH.out.arg (by decide)) HC.out) ?_
      rintro _ u0 ⟨rfl, hB⟩
      replace hS := hS.next hB
      clear hB
      obtain ⟨p0, p1, _⟩ := hS.box
      obtain ⟨x0, y0, _, _⟩ := p0.cells
      obtain ⟨x1, y1, _, _⟩ := p1.cells
      go_wp2_with fail
      clear p0 p1 x0 y0 x1 y1
      refine Calls.mono (compare_v (x := A) (y := B) (z := 0) _ HSA.out HSB.out (vS_cS _) (vS_cS _) HD.out) ?_
      rintro _ u1 ⟨rfl, hB⟩
      replace hS := hS.next hB
      clear hB
      obtain ⟨p0, p1, _⟩ := hS.box
      obtain ⟨x0, y0, _, _⟩ := p0.cells
      obtain ⟨x1, y1, _, _⟩ := p1.cells
      go_wp2_with fail
      clear p0 p1 x0 y0 x1 y1
      refine Calls.mono (fCompare_v (c := 0) _ hS.g (HF.out.arg (by decide)) (HH.out.arg (by decide)) HC.out) ?_
      rintro _ u2 ⟨rfl, hB⟩
      replace hS := hS.next hB
      clear hB
      obtain ⟨p0, p1, _⟩ := hS.box
      obtain ⟨x0, y0, _, _⟩ := p0.cells
      obtain ⟨x1, y1, _, _⟩ := p1.cells
      go_wp2_with fail
      clear p0 p1 x0 y0 x1 y1
      refine Calls.mono (compare_v (x := A) (y := B) (z := 0) _ HSA.out HSB.out (vS_cS _) (vS_cS _) HD.out) ?_
      rintro _ u3 ⟨rfl, hB⟩
      replace hS := hS.next hB
      clear hB
      obtain ⟨p0, p1, _⟩ := hS.box
      obtain ⟨x0, y0, _, _⟩ := p0.cells
      obtain ⟨x1, y1, _, _⟩ := p1.cells
      go_wp2_with fail
      go_meet
      exact ⟨rfl, hS⟩
    · have HC := Lib.hid hc
      have HD := Lib.hid hd
      clear hc hd
      obtain ⟨p0, p1, _⟩ := hS.box
      obtain ⟨x0, y0, _, _⟩ := p0.cells
      obtain ⟨x1, y1, _, _⟩ := p1.cells
      go_wp2_with fail
      clear p0 p1 x0 y0 x1 y1
      refine Calls.mono (fCompare_v (c := 1) _ hS.g (HF.out.arg (by decide)) (HH.out.arg (by decide)) HC.out) ?_
      rintro _ u0 ⟨rfl, hB⟩
      replace hS := hS.next hB
      clear hB
      obtain ⟨p0, p1, _⟩ := hS.box
      obtain ⟨x0, y0, _, _⟩ := p0.cells
      obtain ⟨x1, y1, _, _⟩ := p1.cells
      go_wp2_with fail
      clear p0 p1 x0 y0 x1 y1
      refine Calls.mono (fCompare_v (c := 1) _ hS.g (HF.out.arg (by decide)) (HH.out.arg (by decide)) HC.out) ?_
      rintro _ u1 ⟨rfl, hB⟩
      replace hS := hS.next hB
      clear hB
      obtain ⟨p0, p1, _⟩ := hS.box
      obtain ⟨x0, y0, _, _⟩ := p0.cells
      obtain ⟨x1, y1, _, _⟩ := p1.cells
      go_wp2_with fail
      clear p0 p1 x0 y0 x1 y1
      refine Calls.mono (compare_v (x := A) (y := B) (z := d) _ HSA.out HSB.out (vS_cS _) (vS_cS _) HD.out) ?_
      rintro _ u2 ⟨rfl, hB⟩
      replace hS := hS.next hB
      clear hB
      obtain ⟨p0, p1, _⟩ := hS.box
      obtain ⟨x0, y0, _, _⟩ := p0.cells
      obtain ⟨x1, y1, _, _⟩ := p1.cells
      go_wp2_with fail
      go_meet
      exact ⟨congrArg Value.bool (decide_eq_false (by omega)), hS⟩
  clear HS
  obtain ⟨rfl, hS⟩ := hcut
  obtain ⟨w5, hw⟩ : ∃ W, W = wc := ⟨_, rfl⟩
  rw [← hw] at hS
  rw [← hw]
  clear hw
  obtain ⟨fp0, fp1, _⟩ := hS.box
  obtain ⟨fx0, fy0, _, _⟩ := fp0.cells
  obtain ⟨fx1, fy1, _, _⟩ := fp1.cells
  go_wp2_with fail
  clear fp0 fx0 fy0 fp1 fx1 fy1
  refine Calls.mono (add_v (x := N) (y := N) (z := M) _ hS.g HNL0.out HNL0.out HN0.out HN0.out HM.out) ?_
  rintro _ w6 ⟨rfl, hB⟩
  replace hS := hS.next hB
  clear hB
  obtain ⟨fp0, fp1, _⟩ := hS.box
  obtain ⟨fx0, fy0, _, _⟩ := fp0.cells
  obtain ⟨fx1, fy1, _, _⟩ := fp1.cells
  go_upto_region 10 with fail
  clear fp0 fx0 fy0 fp1 fx1 fy1
  obtain ⟨fp0, fp1, _⟩ := hS.box
  obtain ⟨fx0, fy0, _, _⟩ := fp0.cells
  obtain ⟨fx1, fy1, _, _⟩ := fp1.cells
  try go_upto_region 10 with fail
  have HS := Lib.hid hS
  clear hS
  have hne0 : w6.heap.size ≠ w.heap.size + 1 := World.new_ne w6 _ fx0
  have hle0_0 : w.heap.size + 1 < w6.heap.size := fp0.lt
  have hne1 : w6.heap.size ≠ w.heap.size := World.new_ne w6 _ fx1
  have hle1_0 : w.heap.size < w6.heap.size := fp1.lt
  go_cut [14] (fun s14 wx => ∃ b6_0 : Nat, s14 = .pointer (some ⟨b6_0, 0, none⟩) ∧ StL w wx [(b6_0, (cS S.1), (cD S.2)), (w.heap.size + 1, gn, gd), (w.heap.size, fn, fd)])
  case first =>
    go_region_held3 (fun w' => w'.cell? ⟨w.heap.size + 1, 0, none⟩ = some (.string gn) ∧ w'.cell? ⟨w.heap.size + 1, 1, none⟩ = some (.string gd) ∧ w'.cell? ⟨w.heap.size, 0, none⟩ = some (.string fn) ∧ w'.cell? ⟨w.heap.size, 1, none⟩ = some (.string fd))
      (go_keep)
      (first
    | (go_at_call 31;
         (with_reducible refine Calls.mono (fOf_v (p := M) _ (by first | exact HS.out.g | exact HS.out.drew.g | exact (HS.out.drewN _).g | exact (HS.out.other _).g | exact (HS.out.drew.other _).g | exact (HS.out.other _).drew.g | exact ((HS.out.other _).other _).g | exact ((HS.out.drew.other _).other _).g | exact ((HS.out.other _).other _).drew.g | exact ((HS.out.drew.other _).drew.other _).g | exact ((HS.out.other _).drew.other _).g) HNS.out HNV.out) ?_);
         (rintro e X6_1 ⟨rfl, hB1⟩);
         (first
           | ((have HS2 : StL w X6_1 ([(w.heap.size + 1, gn, gd), (w.heap.size, fn, fd)]) := (by first | exact HS.out.next hB1 | exact HS.out.next1 hB1 | exact HS.out.nextD hB1 | exact (HS.out.alloc _ _).next hB1 | exact (HS.out.drew.alloc _ _).next hB1 | exact (HS.out.alloc _ _).drew.next hB1 | exact (HS.out.alloc2 _ _ _ _).next hB1 | exact (HS.out.drew.alloc2 _ _ _ _).next hB1 | exact (HS.out.alloc2 _ _ _ _).drew.next hB1)); (replace HS := Lib.hid HS2); (clear HS2); (obtain ⟨fp0, fp1, _⟩ := HS.out.box); (obtain ⟨fx0, fy0, _, _⟩ := fp0.cells); (obtain ⟨fx1, fy1, _, _⟩ := fp1.cells); (have hle0_1 : w.heap.size + 1 < X6_1.heap.size := fp0.lt); (have hle1_1 : w.heap.size < X6_1.heap.size := fp1.lt))
           | ((have HS2 : StL w X6_1 ((w6.heap.size, ⟨#[]⟩, ⟨#[]⟩) :: [(w.heap.size + 1, gn, gd), (w.heap.size, fn, fd)]) := (by first | exact HS.out.next hB1 | exact HS.out.next1 hB1 | exact HS.out.nextD hB1 | exact (HS.out.alloc _ _).next hB1 | exact (HS.out.drew.alloc _ _).next hB1 | exact (HS.out.alloc _ _).drew.next hB1 | exact (HS.out.alloc2 _ _ _ _).next hB1 | exact (HS.out.drew.alloc2 _ _ _ _).next hB1 | exact (HS.out.alloc2 _ _ _ _).drew.next hB1)); (replace HS := Lib.hid HS2); (clear HS2); (obtain ⟨pn0, fp0, fp1, _⟩ := HS.out.box); (obtain ⟨nx0, ny0, nz0, nw0⟩ := pn0.cells); (have hnp0 : X6_1.heap.size ≠ w6.heap.size := World.new_ne _ _ nx0); (have hnq0 : w6.heap.size < X6_1.heap.size := pn0.lt); (obtain ⟨fx0, fy0, _, _⟩ := fp0.cells); (obtain ⟨fx1, fy1, _, _⟩ := fp1.cells); (have hle0_1 : w.heap.size + 1 < X6_1.heap.size := fp0.lt); (have hle1_1 : w.heap.size < X6_1.heap.size := fp1.lt); (have hnr0_0 : w6.heap.size ≠ w.heap.size + 1 := (by omega)); (have hnr0_1 : w6.heap.size ≠ w.heap.size := (by omega))));
         (clear hB1);
         (have hne0 : X6_1.heap.size ≠ w.heap.size + 1 := World.new_ne X6_1 _ fx0);
         (have hne1 : X6_1.heap.size ≠ w.heap.size := World.new_ne X6_1 _ fx1))
    | (go_at_call 39;
         (with_reducible refine Calls.mono (fAdd_v (z := S) _ (by first | exact HS.out.g | exact HS.out.drew.g | exact (HS.out.drewN _).g | exact (HS.out.other _).g | exact (HS.out.drew.other _).g | exact (HS.out.other _).drew.g | exact ((HS.out.other _).other _).g | exact ((HS.out.drew.other _).other _).g | exact ((HS.out.other _).other _).drew.g | exact ((HS.out.drew.other _).drew.other _).g | exact ((HS.out.other _).drew.other _).g) (HF.out.arg (by decide)) HNP.out HSU.out) ?_);
         (rintro e X6_2 ⟨rfl, hB1⟩);
         (first
           | ((have HS2 : StL w X6_2 ([(w.heap.size + 1, gn, gd), (w.heap.size, fn, fd)]) := (by first | exact HS.out.next hB1 | exact HS.out.next1 hB1 | exact HS.out.nextD hB1 | exact (HS.out.alloc _ _).next hB1 | exact (HS.out.drew.alloc _ _).next hB1 | exact (HS.out.alloc _ _).drew.next hB1 | exact (HS.out.alloc2 _ _ _ _).next hB1 | exact (HS.out.drew.alloc2 _ _ _ _).next hB1 | exact (HS.out.alloc2 _ _ _ _).drew.next hB1)); (replace HS := Lib.hid HS2); (clear HS2); (obtain ⟨fp0, fp1, _⟩ := HS.out.box); (obtain ⟨fx0, fy0, _, _⟩ := fp0.cells); (obtain ⟨fx1, fy1, _, _⟩ := fp1.cells); (have hle0_2 : w.heap.size + 1 < X6_2.heap.size := fp0.lt); (have hle1_2 : w.heap.size < X6_2.heap.size := fp1.lt))
           | ((have HS2 : StL w X6_2 ((X6_1.heap.size, ⟨#[]⟩, ⟨#[]⟩) :: [(w.heap.size + 1, gn, gd), (w.heap.size, fn, fd)]) := (by first | exact HS.out.next hB1 | exact HS.out.next1 hB1 | exact HS.out.nextD hB1 | exact (HS.out.alloc _ _).next hB1 | exact (HS.out.drew.alloc _ _).next hB1 | exact (HS.out.alloc _ _).drew.next hB1 | exact (HS.out.alloc2 _ _ _ _).next hB1 | exact (HS.out.drew.alloc2 _ _ _ _).next hB1 | exact (HS.out.alloc2 _ _ _ _).drew.next hB1)); (replace HS := Lib.hid HS2); (clear HS2); (obtain ⟨pn0, fp0, fp1, _⟩ := HS.out.box); (obtain ⟨nx0, ny0, nz0, nw0⟩ := pn0.cells); (have hnp0 : X6_2.heap.size ≠ X6_1.heap.size := World.new_ne _ _ nx0); (have hnq0 : X6_1.heap.size < X6_2.heap.size := pn0.lt); (obtain ⟨fx0, fy0, _, _⟩ := fp0.cells); (obtain ⟨fx1, fy1, _, _⟩ := fp1.cells); (have hle0_2 : w.heap.size + 1 < X6_2.heap.size := fp0.lt); (have hle1_2 : w.heap.size < X6_2.heap.size := fp1.lt); (have hnr0_0 : X6_1.heap.size ≠ w.heap.size + 1 := (by omega)); (have hnr0_1 : X6_1.heap.size ≠ w.heap.size := (by omega)))
           | ((have HS2 : StL w X6_2 ((w6.heap.size, ⟨#[]⟩, ⟨#[]⟩) :: [(w.heap.size + 1, gn, gd), (w.heap.size, fn, fd)]) := (by first | exact HS.out.next hB1 | exact HS.out.next1 hB1 | exact HS.out.nextD hB1 | exact (HS.out.alloc _ _).next hB1 | exact (HS.out.drew.alloc _ _).next hB1 | exact (HS.out.alloc _ _).drew.next hB1 | exact (HS.out.alloc2 _ _ _ _).next hB1 | exact (HS.out.drew.alloc2 _ _ _ _).next hB1 | exact (HS.out.alloc2 _ _ _ _).drew.next hB1)); (replace HS := Lib.hid HS2); (clear HS2); (obtain ⟨pn0, fp0, fp1, _⟩ := HS.out.box); (obtain ⟨nx0, ny0, nz0, nw0⟩ := pn0.cells); (have hnp0 : X6_2.heap.size ≠ w6.heap.size := World.new_ne _ _ nx0); (have hnq0 : w6.heap.size < X6_2.heap.size := pn0.lt); (obtain ⟨fx0, fy0, _, _⟩ := fp0.cells); (obtain ⟨fx1, fy1, _, _⟩ := fp1.cells); (have hle0_2 : w.heap.size + 1 < X6_2.heap.size := fp0.lt); (have hle1_2 : w.heap.size < X6_2.heap.size := fp1.lt); (have hnr0_0 : w6.heap.size ≠ w.heap.size + 1 := (by omega)); (have hnr0_1 : w6.heap.size ≠ w.heap.size := (by omega))));
         (clear hB1);
         (have hne0 : X6_2.heap.size ≠ w.heap.size + 1 := World.new_ne X6_2 _ fx0);
         (have hne1 : X6_2.heap.size ≠ w.heap.size := World.new_ne X6_2 _ fx1)))
    all_goals go_wp2_with fail
    all_goals go_meet
    all_goals refine ⟨_, rfl, ?_⟩
    all_goals first
      | with_reducible exact HS.out.alloc _ _
      | with_reducible exact StL.fill hG HS.out _ _
      | with_reducible exact (HS.out.alloc _ _).drew
      | with_reducible exact HS.out.drew.alloc _ _
      | with_reducible exact StL.fill hG HS.out.drew _ _
      | with_reducible exact (HS.out.drew.alloc _ _).drew
  clear HS hne0 hle0_0 hne1 hle1_0
  clear fp0 fx0 fy0 fp1 fx1 fy1
  obtain ⟨b6_0, rfl, hS⟩ := hcut
  obtain ⟨w7, hw⟩ : ∃ W, W = wc := ⟨_, rfl⟩
  rw [← hw] at hS
  rw [← hw]
  clear hw
  obtain ⟨fp0, fp1, fp2, _⟩ := hS.box
  obtain ⟨fx0, fy0, _, _⟩ := fp0.cells
  obtain ⟨fx1, fy1, _, _⟩ := fp1.cells
  obtain ⟨fx2, fy2, _, _⟩ := fp2.cells
  go_wp2_with fail
  clear fp0 fx0 fy0 fp1 fx1 fy1 fp2 fx2 fy2
  refine Calls.mono (ratio_0_1.call _ hS.g) ?_
  rintro _ w8 ⟨rfl, hB⟩
  replace hS := hS.next hB
  clear hB
  go_upto_region 12 with fail
  obtain ⟨b9, hb9⟩ : ∃ b, b = w8.heap.size := ⟨_, rfl⟩
  obtain ⟨V9, hV9⟩ : ∃ V, V = w8.alloc (.cells #[.string ⟨#[]⟩, .string ⟨#[]⟩] 24) := ⟨_, rfl⟩
  have hT : StL w V9 [(b9, ⟨#[]⟩, ⟨#[]⟩), (b6_0, (cS S.1), (cD S.2)), (w.heap.size + 1, gn, gd), (w.heap.size, fn, fd)] := by rw [hV9, hb9]; exact hS.alloc _ _
  rw [← hb9, ← hV9]
  clear hV9 hb9 hS
  have hS := hT
  clear hT
  obtain ⟨fp0, fp1, fp2, fp3, _⟩ := hS.box
  obtain ⟨fx0, fy0, _, _⟩ := fp0.cells
  obtain ⟨fx1, fy1, _, _⟩ := fp1.cells
  obtain ⟨fx2, fy2, _, _⟩ := fp2.cells
  obtain ⟨fx3, fy3, _, _⟩ := fp3.cells
  try go_upto_region 12 with fail
  have HS := Lib.hid hS
  clear hS
  go_cut [115] (fun s115 wx => s115 = .bool false ∧ StL w wx [(b9, ⟨#[]⟩, ⟨#[]⟩), (b6_0, (cS S.1), (cD S.2)), (w.heap.size + 1, gn, gd), (w.heap.size, fn, fd)])
  case first =>
    rcases HMS.out with rfl | rfl | rfl
    · go_region_held3 (fun w' => w'.cell? ⟨b9, 0, none⟩ = some (.string ⟨#[]⟩) ∧ w'.cell? ⟨b9, 1, none⟩ = some (.string ⟨#[]⟩) ∧ w'.cell? ⟨b6_0, 0, none⟩ = some (.string (cS S.1)) ∧ w'.cell? ⟨b6_0, 1, none⟩ = some (.string (cD S.2)) ∧ w'.cell? ⟨w.heap.size + 1, 0, none⟩ = some (.string gn) ∧ w'.cell? ⟨w.heap.size + 1, 1, none⟩ = some (.string gd) ∧ w'.cell? ⟨w.heap.size, 0, none⟩ = some (.string fn) ∧ w'.cell? ⟨w.heap.size, 1, none⟩ = some (.string fd))
        (go_keep)
        (first
        | (go_at_call 29;
             (first
               | (with_reducible refine Calls.mono (fCompare_v (c := cf) _ (by first | exact HS.out.g | exact HS.out.drew.g | exact (HS.out.drewN _).g) (HF.out.arg (by decide)) Val.zero HCF.out) ?_)
               | (with_reducible refine Calls.mono (fCompare_v (c := cs) _ (by first | exact HS.out.g | exact HS.out.drew.g | exact (HS.out.drewN _).g) HSV.out Val.zero HCS.out) ?_));
             (rintro e WX ⟨rfl, hB1⟩);
             (have HS2 : StL w WX [(b9, ⟨#[]⟩, ⟨#[]⟩), (b6_0, (cS S.1), (cD S.2)), (w.heap.size + 1, gn, gd), (w.heap.size, fn, fd)] := (by first | exact HS.out.next hB1 | exact HS.out.next1 hB1 | exact HS.out.nextD hB1));
             (replace HS := Lib.hid HS2);
             (clear hB1 HS2);
             (obtain ⟨fp0, fp1, fp2, fp3, _⟩ := HS.out.box);
             (obtain ⟨fx0, fy0, _, _⟩ := fp0.cells);
             (obtain ⟨fx1, fy1, _, _⟩ := fp1.cells);
             (obtain ⟨fx2, fy2, _, _⟩ := fp2.cells);
             (obtain ⟨fx3, fy3, _, _⟩ := fp3.cells)))
      all_goals go_wp2_with fail
      all_goals go_meet
      all_goals exact ⟨congrArg Value.bool (by first | rfl | (rw [show decide (cf < 0) = false from decide_eq_false (by omega), show decide (cs < 0) = false from decide_eq_false (by omega)]; rfl)), (by first | exact HS.out | exact HS.out.drew | exact HS.out.drewN _)⟩
    · go_region_held3 (fun w' => w'.cell? ⟨b9, 0, none⟩ = some (.string ⟨#[]⟩) ∧ w'.cell? ⟨b9, 1, none⟩ = some (.string ⟨#[]⟩) ∧ w'.cell? ⟨b6_0, 0, none⟩ = some (.string (cS S.1)) ∧ w'.cell? ⟨b6_0, 1, none⟩ = some (.string (cD S.2)) ∧ w'.cell? ⟨w.heap.size + 1, 0, none⟩ = some (.string gn) ∧ w'.cell? ⟨w.heap.size + 1, 1, none⟩ = some (.string gd) ∧ w'.cell? ⟨w.heap.size, 0, none⟩ = some (.string fn) ∧ w'.cell? ⟨w.heap.size, 1, none⟩ = some (.string fd))
        (go_keep)
        (first
        | (go_at_call 29;
             (first
               | (with_reducible refine Calls.mono (fCompare_v (c := cf) _ (by first | exact HS.out.g | exact HS.out.drew.g | exact (HS.out.drewN _).g) (HF.out.arg (by decide)) Val.zero HCF.out) ?_)
               | (with_reducible refine Calls.mono (fCompare_v (c := cs) _ (by first | exact HS.out.g | exact HS.out.drew.g | exact (HS.out.drewN _).g) HSV.out Val.zero HCS.out) ?_));
             (rintro e WX ⟨rfl, hB1⟩);
             (have HS2 : StL w WX [(b9, ⟨#[]⟩, ⟨#[]⟩), (b6_0, (cS S.1), (cD S.2)), (w.heap.size + 1, gn, gd), (w.heap.size, fn, fd)] := (by first | exact HS.out.next hB1 | exact HS.out.next1 hB1 | exact HS.out.nextD hB1));
             (replace HS := Lib.hid HS2);
             (clear hB1 HS2);
             (obtain ⟨fp0, fp1, fp2, fp3, _⟩ := HS.out.box);
             (obtain ⟨fx0, fy0, _, _⟩ := fp0.cells);
             (obtain ⟨fx1, fy1, _, _⟩ := fp1.cells);
             (obtain ⟨fx2, fy2, _, _⟩ := fp2.cells);
             (obtain ⟨fx3, fy3, _, _⟩ := fp3.cells)))
      all_goals go_wp2_with fail
      all_goals go_meet
      all_goals exact ⟨congrArg Value.bool (by first | rfl | (rw [show decide (cf < 0) = false from decide_eq_false (by omega), show decide (cs < 0) = false from decide_eq_false (by omega)]; rfl)), (by first | exact HS.out | exact HS.out.drew | exact HS.out.drewN _)⟩
    · go_region_held3 (fun w' => w'.cell? ⟨b9, 0, none⟩ = some (.string ⟨#[]⟩) ∧ w'.cell? ⟨b9, 1, none⟩ = some (.string ⟨#[]⟩) ∧ w'.cell? ⟨b6_0, 0, none⟩ = some (.string (cS S.1)) ∧ w'.cell? ⟨b6_0, 1, none⟩ = some (.string (cD S.2)) ∧ w'.cell? ⟨w.heap.size + 1, 0, none⟩ = some (.string gn) ∧ w'.cell? ⟨w.heap.size + 1, 1, none⟩ = some (.string gd) ∧ w'.cell? ⟨w.heap.size, 0, none⟩ = some (.string fn) ∧ w'.cell? ⟨w.heap.size, 1, none⟩ = some (.string fd))
        (go_keep)
        (first
        | (go_at_call 29;
             (first
               | (with_reducible refine Calls.mono (fCompare_v (c := cf) _ (by first | exact HS.out.g | exact HS.out.drew.g | exact (HS.out.drewN _).g) (HF.out.arg (by decide)) Val.zero HCF.out) ?_)
               | (with_reducible refine Calls.mono (fCompare_v (c := cs) _ (by first | exact HS.out.g | exact HS.out.drew.g | exact (HS.out.drewN _).g) HSV.out Val.zero HCS.out) ?_));
             (rintro e WX ⟨rfl, hB1⟩);
             (have HS2 : StL w WX [(b9, ⟨#[]⟩, ⟨#[]⟩), (b6_0, (cS S.1), (cD S.2)), (w.heap.size + 1, gn, gd), (w.heap.size, fn, fd)] := (by first | exact HS.out.next hB1 | exact HS.out.next1 hB1 | exact HS.out.nextD hB1));
             (replace HS := Lib.hid HS2);
             (clear hB1 HS2);
             (obtain ⟨fp0, fp1, fp2, fp3, _⟩ := HS.out.box);
             (obtain ⟨fx0, fy0, _, _⟩ := fp0.cells);
             (obtain ⟨fx1, fy1, _, _⟩ := fp1.cells);
             (obtain ⟨fx2, fy2, _, _⟩ := fp2.cells);
             (obtain ⟨fx3, fy3, _, _⟩ := fp3.cells)))
      all_goals go_wp2_with fail
      all_goals go_meet
      all_goals exact ⟨congrArg Value.bool (by first | rfl | (rw [show decide (cf < 0) = false from decide_eq_false (by omega), show decide (cs < 0) = false from decide_eq_false (by omega)]; rfl)), (by first | exact HS.out | exact HS.out.drew | exact HS.out.drewN _)⟩
  clear HS
  clear fp0 fx0 fy0 fp1 fx1 fy1 fp2 fx2 fy2 fp3 fx3 fy3
  obtain ⟨rfl, hS⟩ := hcut
  obtain ⟨w10, hw⟩ : ∃ W, W = wc := ⟨_, rfl⟩
  rw [← hw] at hS
  rw [← hw]
  clear hw
  obtain ⟨fp0, fp1, fp2, fp3, _⟩ := hS.box
  obtain ⟨fx0, fy0, _, _⟩ := fp0.cells
  obtain ⟨fx1, fy1, _, _⟩ := fp1.cells
  obtain ⟨fx2, fy2, _, _⟩ := fp2.cells
  obtain ⟨fx3, fy3, _, _⟩ := fp3.cells
  go_upto_region 14 with fail
  clear fp0 fx0 fy0 fp1 fx1 fy1 fp2 fx2 fy2 fp3 fx3 fy3
  obtain ⟨fp0, fp1, fp2, fp3, _⟩ := hS.box
  obtain ⟨fx0, fy0, _, _⟩ := fp0.cells
  obtain ⟨fx1, fy1, _, _⟩ := fp1.cells
  obtain ⟨fx2, fy2, _, _⟩ := fp2.cells
  obtain ⟨fx3, fy3, _, _⟩ := fp3.cells
  try go_upto_region 14 with fail
  have HS := Lib.hid hS
  clear hS
  go_cut [16, 17] (fun s16 s17 wx => s16 = .string (cS C) ∧ s17 = .int .i64 0 ∧ StL w wx [(b9, ⟨#[]⟩, ⟨#[]⟩), (b6_0, (cS S.1), (cD S.2)), (w.heap.size + 1, gn, gd), (w.heap.size, fn, fd)])
  case first =>
    go_region_held3 (fun w' => w'.cell? ⟨b9, 0, none⟩ = some (.string ⟨#[]⟩) ∧ w'.cell? ⟨b9, 1, none⟩ = some (.string ⟨#[]⟩) ∧ w'.cell? ⟨b6_0, 0, none⟩ = some (.string (cS S.1)) ∧ w'.cell? ⟨b6_0, 1, none⟩ = some (.string (cD S.2)) ∧ w'.cell? ⟨w.heap.size + 1, 0, none⟩ = some (.string gn) ∧ w'.cell? ⟨w.heap.size + 1, 1, none⟩ = some (.string gd) ∧ w'.cell? ⟨w.heap.size, 0, none⟩ = some (.string fn) ∧ w'.cell? ⟨w.heap.size, 1, none⟩ = some (.string fd))
      (go_keep)
      (first
    | (go_at_call 31;
         (first
           | (with_reducible refine Calls.mono (fOf_v (p := M) _ (by first | exact HS.out.g | exact HS.out.drew.g | exact (HS.out.drewN _).g) HNS.out HNV.out) ?_));
         (rintro e WX ⟨rfl, hB1⟩);
         (have HS2 : StL w WX [(b9, ⟨#[]⟩, ⟨#[]⟩), (b6_0, (cS S.1), (cD S.2)), (w.heap.size + 1, gn, gd), (w.heap.size, fn, fd)] := (by first | exact HS.out.next hB1 | exact HS.out.next1 hB1 | exact HS.out.nextD hB1));
         (replace HS := Lib.hid HS2);
         (clear hB1 HS2);
         (obtain ⟨fp0, fp1, fp2, fp3, _⟩ := HS.out.box);
         (obtain ⟨fx0, fy0, _, _⟩ := fp0.cells);
         (obtain ⟨fx1, fy1, _, _⟩ := fp1.cells);
         (obtain ⟨fx2, fy2, _, _⟩ := fp2.cells);
         (obtain ⟨fx3, fy3, _, _⟩ := fp3.cells))
    | (go_at_call 39;
         (first
           | (with_reducible refine Calls.mono (fAdd_v (z := S) _ (by first | exact HS.out.g | exact HS.out.drew.g | exact (HS.out.drewN _).g) (HF.out.arg (by decide)) HNP.out HSU.out) ?_));
         (rintro e WX ⟨rfl, hB1⟩);
         (have HS2 : StL w WX [(b9, ⟨#[]⟩, ⟨#[]⟩), (b6_0, (cS S.1), (cD S.2)), (w.heap.size + 1, gn, gd), (w.heap.size, fn, fd)] := (by first | exact HS.out.next hB1 | exact HS.out.next1 hB1 | exact HS.out.nextD hB1));
         (replace HS := Lib.hid HS2);
         (clear hB1 HS2);
         (obtain ⟨fp0, fp1, fp2, fp3, _⟩ := HS.out.box);
         (obtain ⟨fx0, fy0, _, _⟩ := fp0.cells);
         (obtain ⟨fx1, fy1, _, _⟩ := fp1.cells);
         (obtain ⟨fx2, fy2, _, _⟩ := fp2.cells);
         (obtain ⟨fx3, fy3, _, _⟩ := fp3.cells))
    | (go_at_call 13;
         (first
           | (with_reducible refine Calls.mono (Ret.call HRC.out _ (by first | exact HS.out.g | exact HS.out.drew.g | exact (HS.out.drewN _).g)) ?_));
         (rintro e WX ⟨rfl, hB1⟩);
         (have HS2 : StL w WX [(b9, ⟨#[]⟩, ⟨#[]⟩), (b6_0, (cS S.1), (cD S.2)), (w.heap.size + 1, gn, gd), (w.heap.size, fn, fd)] := (by first | exact HS.out.next hB1 | exact HS.out.next1 hB1 | exact HS.out.nextD hB1));
         (replace HS := Lib.hid HS2);
         (clear hB1 HS2);
         (obtain ⟨fp0, fp1, fp2, fp3, _⟩ := HS.out.box);
         (obtain ⟨fx0, fy0, _, _⟩ := fp0.cells);
         (obtain ⟨fx1, fy1, _, _⟩ := fp1.cells);
         (obtain ⟨fx2, fy2, _, _⟩ := fp2.cells);
         (obtain ⟨fx3, fy3, _, _⟩ := fp3.cells)))
    all_goals go_wp2_with fail
    all_goals go_meet
    all_goals exact ⟨rfl, rfl, (by first | exact HS.out | exact HS.out.drew | exact HS.out.drewN _)⟩
  clear HS
  clear fp0 fx0 fy0 fp1 fx1 fy1 fp2 fx2 fy2 fp3 fx3 fy3
  obtain ⟨rfl, rfl, hS⟩ := hcut
  obtain ⟨w11, hw⟩ : ∃ W, W = wc := ⟨_, rfl⟩
  rw [← hw] at hS
  rw [← hw]
  clear hw
  obtain ⟨fp0, fp1, fp2, fp3, _⟩ := hS.box
  obtain ⟨fx0, fy0, _, _⟩ := fp0.cells
  obtain ⟨fx1, fy1, _, _⟩ := fp1.cells
  obtain ⟨fx2, fy2, _, _⟩ := fp2.cells
  obtain ⟨fx3, fy3, _, _⟩ := fp3.cells
  go_wp2_with fail
  clear fp0 fx0 fy0 fp1 fx1 fy1 fp2 fx2 fy2 fp3 fx3 fy3
  refine Calls.mono (add_v (x := A) (y := M) (z := C) _ hS.g HSA.out HNL.out (vS_cS _) HNV.out HAC.out) ?_
  rintro _ w12 ⟨rfl, hB⟩
  replace hS := hS.next hB
  clear hB
  obtain ⟨fp0, fp1, fp2, fp3, _⟩ := hS.box
  obtain ⟨fx0, fy0, _, _⟩ := fp0.cells
  obtain ⟨fx1, fy1, _, _⟩ := fp1.cells
  obtain ⟨fx2, fy2, _, _⟩ := fp2.cells
  obtain ⟨fx3, fy3, _, _⟩ := fp3.cells
  go_wp2_with fail
  clear fp0 fx0 fy0 fp1 fx1 fy1 fp2 fx2 fy2 fp3 fx3 fy3
  refine Calls.mono (Ret.call HAW.out _ hS.g) ?_
  rintro _ w13 ⟨rfl, hB⟩
  replace hS := hS.next hB
  clear hB
  obtain ⟨fp0, fp1, fp2, fp3, _⟩ := hS.box
  obtain ⟨fx0, fy0, _, _⟩ := fp0.cells
  obtain ⟨fx1, fy1, _, _⟩ := fp1.cells
  obtain ⟨fx2, fy2, _, _⟩ := fp2.cells
  obtain ⟨fx3, fy3, _, _⟩ := fp3.cells
  go_wp2_with fail
  go_ret
  exact ⟨rfl, hS.below⟩

theorem dor_any (fn fd gn gd n : ByteArray) (k : Int) (w : World) (hG : Ground w) (hk0 : 0 ≤ k) (hk1 : k ≤ 255) :
    Calls Tryz.prog 8 #[.agg #[.string fn, .string fd], .agg #[.string gn, .string gd], .string n, .int .u8 k] w fun e w' => e = .returned (.bool true) ∧ Below w.heap.size w w' := by
  by_cases hf : fn.size ≤ 60 ∧ fd.size ≤ 60
  · have l1 := longF_false hf.1 hf.2
    by_cases hg : gn.size ≤ 60 ∧ gd.size ≤ 60
    · have l2 := longF_false hg.1 hg.2
      by_cases hn : n.size ≤ 60
      · by_cases hs : (120 : Int) < (fn.size : Int) + fd.size + gn.size + gd.size
        · exact dor_l4 fn fd gn gd n k w hG hf.1 hf.2 hg.1 hg.2 hn hs
        · by_cases h5 : 4 ≤ k % 6
          · exact dor_i fn fd gn gd n k w hG hf.1 hf.2 hg.1 hg.2 hn hk0 hk1 hs (1 + k % 6) rfl (by omega)
          · by_cases h0 : k % 6 = 0
            · exact dor_ii fn fd gn gd n k w hG hf.1 hf.2 hg.1 hg.2 hn hk0 hk1 hs h0
            · by_cases a : cmpP (raw fn fd) (0, 1) < 0
              · by_cases b : cmpP (addP (raw fn fd) (vS n + vS n, 1)) (0, 1) < 0
                · exact dor_nn fn fd gn gd n k w hG hf.1 hf.2 hg.1 hg.2 hn hk0 hk1 hs (1 + k % 6) rfl (by omega) (by omega) a b
                · exact dor_np fn fd gn gd n k w hG hf.1 hf.2 hg.1 hg.2 hn hk0 hk1 hs (1 + k % 6) rfl (by omega) (by omega) a b
              · by_cases b : cmpP (addP (raw fn fd) (vS n + vS n, 1)) (0, 1) < 0
                · exact dor_pn fn fd gn gd n k w hG hf.1 hf.2 hg.1 hg.2 hn hk0 hk1 hs (1 + k % 6) rfl (by omega) (by omega) a b
                · exact dor_pp fn fd gn gd n k w hG hf.1 hf.2 hg.1 hg.2 hn hk0 hk1 hs (1 + k % 6) rfl (by omega) (by omega) a b
      · exact dor_l3 fn fd gn gd n k w hG l1 l2 (longS_true (by omega))
    · exact dor_l2 fn fd gn gd n k w hG l1 (longF_true (by omega))
  · exact dor_l1 fn fd gn gd n k w hG (longF_true (by omega))

end Go.Proofs.YtlonbfddhfacmaaGreatDoor
