/- the law FractionField: the walk. -/
import Derived.Test.YtldohkfomdcpoaaDoorFst
import Derived.Deep.DeepCutAuto
import Derived.Laws.NewBlocks
namespace Go.Proofs.YtldohkfomdcpoaaDoor
open Go.RowKit Fra

set_option maxRecDepth 100000 in
set_option maxHeartbeats 16000000 in
theorem ffield_in (fn fd gn gd hn hd : ByteArray) (w : World) (hG : Ground w) (hf1 : fn.size ≤ 60) (hf2 : fd.size ≤ 60) (hg1 : gn.size ≤ 60) (hg2 : gd.size ≤ 60) (hh1 : hn.size ≤ 60) (hh2 : hd.size ≤ 60) :
    Calls Tryd.prog 3 #[.agg #[.string fn, .string fd], .agg #[.string gn, .string gd], .agg #[.string hn, .string hd]] w fun e w' => e = .returned (.bool true) ∧ Below w.heap.size w w' := by
  have hl : flong 60 [(fn, fd), (gn, gd), (hn, hd)] = false := flong_false (by simp; omega)
  have HL := Lib.hid hl
  clear hl
  obtain ⟨x, hx⟩ : ∃ x, raw fn fd = x := ⟨_, rfl⟩
  have Hf : Giv 60 fn fd x := ⟨hx, hf1, hf2⟩
  clear hx
  obtain ⟨y, hy⟩ : ∃ x, raw gn gd = x := ⟨_, rfl⟩
  have Hg : Giv 60 gn gd y := ⟨hy, hg1, hg2⟩
  clear hy
  obtain ⟨z, hz⟩ : ∃ x, raw hn hd = x := ⟨_, rfl⟩
  have Hh : Giv 60 hn hd z := ⟨hz, hh1, hh2⟩
  clear hz
  have xp := Hf.pos
  have yp := Hg.pos
  have zp := Hh.pos
  obtain ⟨W0, hW0⟩ : ∃ W0, W0 = ((w.alloc (.cells #[.string fn, .string fd] 24)).alloc (.cells #[.string gn, .string gd] 24)).alloc (.cells #[.string hn, .string hd] 24) := ⟨_, rfl⟩
  have hS : StL w W0 [(w.heap.size + 1 + 1, hn, hd), (w.heap.size + 1, gn, gd), (w.heap.size, fn, fd)] := by rw [hW0]; exact StL.three hG _ _ _ _ _ _
  go_enter Tryd.func3, Tryd.ntmps3
  go_upto_region 1 with fail
  rw [← hW0]
  clear hW0
  obtain ⟨fp0, fp1, fp2, _⟩ := hS.box
  obtain ⟨fx0, fy0, _, _⟩ := fp0.cells
  obtain ⟨fx1, fy1, _, _⟩ := fp1.cells
  obtain ⟨fx2, fy2, _, _⟩ := fp2.cells
  go_wp2_with fail
  obtain ⟨W1, hW1⟩ : ∃ W1, W1 = W0.alloc (.cells #[.string fn, .string fd, .string gn, .string gd, .string hn, .string hd] 24) := ⟨_, rfl⟩
  have hc0 : ∀ i, i < 3 → W1.cell? ⟨W0.heap.size, i * 2, none⟩ = some (.string ([(fn, fd), (gn, gd), (hn, hd)].getD i (⟨#[]⟩, ⟨#[]⟩)).1) ∧ W1.cell? ⟨W0.heap.size, i * 2 + 1, none⟩ = some (.string ([(fn, fd), (gn, gd), (hn, hd)].getD i (⟨#[]⟩, ⟨#[]⟩)).2) := by rw [hW1]; exact fgreat_cells W0 [(fn, fd), (gn, gd), (hn, hd)]
  have hS1 : StL w W1 [(w.heap.size + 1 + 1, hn, hd), (w.heap.size + 1, gn, gd), (w.heap.size, fn, fd)] := by rw [hW1]; exact hS.other _
  rw [← hW1]
  clear fp0 fx0 fy0 fp1 fx1 fy1 fp2 fx2 fy2
  clear hW1 hS
  have hS := hS1
  clear hS1
  refine (rGreat_any W1 W0.heap.size 3 [(fn, fd), (gn, gd), (hn, hd)] rfl (by decide) hc0).mono ?_
  rintro _ _ ⟨rfl, rfl⟩
  clear hc0
  rw [HL.out]
  obtain ⟨fp0, fp1, fp2, _⟩ := hS.box
  obtain ⟨fx0, fy0, _, _⟩ := fp0.cells
  obtain ⟨fx1, fy1, _, _⟩ := fp1.cells
  obtain ⟨fx2, fy2, _, _⟩ := fp2.cells
  try go_upto_region 3 with fail
  have HS := Lib.hid hS
  clear hS
  have hne0 : W1.heap.size ≠ w.heap.size + 1 + 1 := World.new_ne W1 _ fx0
  have hle0_0 : w.heap.size + 1 + 1 < W1.heap.size := fp0.lt
  have hne1 : W1.heap.size ≠ w.heap.size + 1 := World.new_ne W1 _ fx1
  have hle1_0 : w.heap.size + 1 < W1.heap.size := fp1.lt
  have hne2 : W1.heap.size ≠ w.heap.size := World.new_ne W1 _ fx2
  have hle2_0 : w.heap.size < W1.heap.size := fp2.lt
  go_cut [7, 8] (fun s7 s8 wx => ∃ b0_0 b0_1 : Nat, s7 = .pointer (some ⟨b0_0, 0, none⟩) ∧ s8 = .pointer (some ⟨b0_1, 0, none⟩) ∧ StL w wx [(b0_0, (cS (addP x y).1), (cD (addP x y).2)), (b0_1, (cS (mulP x y).1), (cD (mulP x y).2)), (w.heap.size + 1 + 1, hn, hd), (w.heap.size + 1, gn, gd), (w.heap.size, fn, fd)])
  case first =>
    go_region_held3 (fun w' => w'.cell? ⟨w.heap.size + 1 + 1, 0, none⟩ = some (.string hn) ∧ w'.cell? ⟨w.heap.size + 1 + 1, 1, none⟩ = some (.string hd) ∧ w'.cell? ⟨w.heap.size + 1, 0, none⟩ = some (.string gn) ∧ w'.cell? ⟨w.heap.size + 1, 1, none⟩ = some (.string gd) ∧ w'.cell? ⟨w.heap.size, 0, none⟩ = some (.string fn) ∧ w'.cell? ⟨w.heap.size, 1, none⟩ = some (.string fd))
      (go_keep)
      (first
    | (go_at_call 11;
         (with_reducible refine Calls.mono (fAdd_v (z := addP x y) _ (by first | exact HS.out.g | exact HS.out.drew.g | exact (HS.out.drewN _).g | exact (HS.out.other _).g | exact (HS.out.drew.other _).g | exact (HS.out.other _).drew.g | exact ((HS.out.other _).other _).g | exact ((HS.out.drew.other _).other _).g | exact ((HS.out.other _).other _).drew.g | exact ((HS.out.drew.other _).drew.other _).g | exact ((HS.out.other _).drew.other _).g) (Hf.arg (by decide)) (Hg.arg (by decide)) (rfl)) ?_);
         (rintro e X0_1 ⟨rfl, hB1⟩);
         (first
           | ((have HS2 : StL w X0_1 ([(w.heap.size + 1 + 1, hn, hd), (w.heap.size + 1, gn, gd), (w.heap.size, fn, fd)]) := (by first | exact HS.out.next hB1 | exact HS.out.next1 hB1 | exact HS.out.nextD hB1 | exact (HS.out.alloc _ _).next hB1 | exact (HS.out.drew.alloc _ _).next hB1 | exact (HS.out.alloc _ _).drew.next hB1 | exact (HS.out.alloc2 _ _ _ _).next hB1 | exact (HS.out.drew.alloc2 _ _ _ _).next hB1 | exact (HS.out.alloc2 _ _ _ _).drew.next hB1)); (replace HS := Lib.hid HS2); (clear HS2); (obtain ⟨fp0, fp1, fp2, _⟩ := HS.out.box); (obtain ⟨fx0, fy0, _, _⟩ := fp0.cells); (obtain ⟨fx1, fy1, _, _⟩ := fp1.cells); (obtain ⟨fx2, fy2, _, _⟩ := fp2.cells); (have hle0_1 : w.heap.size + 1 + 1 < X0_1.heap.size := fp0.lt); (have hle1_1 : w.heap.size + 1 < X0_1.heap.size := fp1.lt); (have hle2_1 : w.heap.size < X0_1.heap.size := fp2.lt))
           | ((have HS2 : StL w X0_1 ((W1.heap.size, ⟨#[]⟩, ⟨#[]⟩) :: [(w.heap.size + 1 + 1, hn, hd), (w.heap.size + 1, gn, gd), (w.heap.size, fn, fd)]) := (by first | exact HS.out.next hB1 | exact HS.out.next1 hB1 | exact HS.out.nextD hB1 | exact (HS.out.alloc _ _).next hB1 | exact (HS.out.drew.alloc _ _).next hB1 | exact (HS.out.alloc _ _).drew.next hB1 | exact (HS.out.alloc2 _ _ _ _).next hB1 | exact (HS.out.drew.alloc2 _ _ _ _).next hB1 | exact (HS.out.alloc2 _ _ _ _).drew.next hB1)); (replace HS := Lib.hid HS2); (clear HS2); (obtain ⟨pn0, fp0, fp1, fp2, _⟩ := HS.out.box); (obtain ⟨nx0, ny0, nz0, nw0⟩ := pn0.cells); (have hnp0 : X0_1.heap.size ≠ W1.heap.size := World.new_ne _ _ nx0); (have hnq0 : W1.heap.size < X0_1.heap.size := pn0.lt); (obtain ⟨fx0, fy0, _, _⟩ := fp0.cells); (obtain ⟨fx1, fy1, _, _⟩ := fp1.cells); (obtain ⟨fx2, fy2, _, _⟩ := fp2.cells); (have hle0_1 : w.heap.size + 1 + 1 < X0_1.heap.size := fp0.lt); (have hle1_1 : w.heap.size + 1 < X0_1.heap.size := fp1.lt); (have hle2_1 : w.heap.size < X0_1.heap.size := fp2.lt); (have hnr0_0 : W1.heap.size ≠ w.heap.size + 1 + 1 := (by omega)); (have hnr0_1 : W1.heap.size ≠ w.heap.size + 1 := (by omega)); (have hnr0_2 : W1.heap.size ≠ w.heap.size := (by omega)))
           | ((have HS2 : StL w X0_1 ((W1.heap.size + 1, ⟨#[]⟩, ⟨#[]⟩) :: (W1.heap.size, ⟨#[]⟩, ⟨#[]⟩) :: [(w.heap.size + 1 + 1, hn, hd), (w.heap.size + 1, gn, gd), (w.heap.size, fn, fd)]) := (by first | exact HS.out.next hB1 | exact HS.out.next1 hB1 | exact HS.out.nextD hB1 | exact (HS.out.alloc _ _).next hB1 | exact (HS.out.drew.alloc _ _).next hB1 | exact (HS.out.alloc _ _).drew.next hB1 | exact (HS.out.alloc2 _ _ _ _).next hB1 | exact (HS.out.drew.alloc2 _ _ _ _).next hB1 | exact (HS.out.alloc2 _ _ _ _).drew.next hB1)); (replace HS := Lib.hid HS2); (clear HS2); (obtain ⟨pn0, pn1, fp0, fp1, fp2, _⟩ := HS.out.box); (obtain ⟨nx0, ny0, nz0, nw0⟩ := pn0.cells); (have hnp0 : X0_1.heap.size ≠ W1.heap.size + 1 := World.new_ne _ _ nx0); (have hnq0 : W1.heap.size + 1 < X0_1.heap.size := pn0.lt); (obtain ⟨nx1, ny1, nz1, nw1⟩ := pn1.cells); (have hnp1 : X0_1.heap.size ≠ W1.heap.size := World.new_ne _ _ nx1); (have hnq1 : W1.heap.size < X0_1.heap.size := pn1.lt); (obtain ⟨fx0, fy0, _, _⟩ := fp0.cells); (obtain ⟨fx1, fy1, _, _⟩ := fp1.cells); (obtain ⟨fx2, fy2, _, _⟩ := fp2.cells); (have hle0_1 : w.heap.size + 1 + 1 < X0_1.heap.size := fp0.lt); (have hle1_1 : w.heap.size + 1 < X0_1.heap.size := fp1.lt); (have hle2_1 : w.heap.size < X0_1.heap.size := fp2.lt); (have hnr0_0 : W1.heap.size + 1 ≠ w.heap.size + 1 + 1 := (by omega)); (have hnr0_1 : W1.heap.size + 1 ≠ w.heap.size + 1 := (by omega)); (have hnr0_2 : W1.heap.size + 1 ≠ w.heap.size := (by omega)); (have hnr1_0 : W1.heap.size ≠ w.heap.size + 1 + 1 := (by omega)); (have hnr1_1 : W1.heap.size ≠ w.heap.size + 1 := (by omega)); (have hnr1_2 : W1.heap.size ≠ w.heap.size := (by omega)); (have hnd01 : W1.heap.size + 1 ≠ W1.heap.size := (List.pairwise_cons.1 HS.out.nd).1 _ (List.mem_cons_self ..))));
         (clear hB1);
         (have hne0 : X0_1.heap.size ≠ w.heap.size + 1 + 1 := World.new_ne X0_1 _ fx0);
         (have hne1 : X0_1.heap.size ≠ w.heap.size + 1 := World.new_ne X0_1 _ fx1);
         (have hne2 : X0_1.heap.size ≠ w.heap.size := World.new_ne X0_1 _ fx2))
    | (go_at_call 12;
         (with_reducible refine Calls.mono (fMul_v (z := mulP x y) _ (by first | exact HS.out.g | exact HS.out.drew.g | exact (HS.out.drewN _).g | exact (HS.out.other _).g | exact (HS.out.drew.other _).g | exact (HS.out.other _).drew.g | exact ((HS.out.other _).other _).g | exact ((HS.out.drew.other _).other _).g | exact ((HS.out.other _).other _).drew.g | exact ((HS.out.drew.other _).drew.other _).g | exact ((HS.out.other _).drew.other _).g) (Hf.arg (by decide)) (Hg.arg (by decide)) (rfl)) ?_);
         (rintro e X0_2 ⟨rfl, hB1⟩);
         (first
           | ((have HS2 : StL w X0_2 ([(w.heap.size + 1 + 1, hn, hd), (w.heap.size + 1, gn, gd), (w.heap.size, fn, fd)]) := (by first | exact HS.out.next hB1 | exact HS.out.next1 hB1 | exact HS.out.nextD hB1 | exact (HS.out.alloc _ _).next hB1 | exact (HS.out.drew.alloc _ _).next hB1 | exact (HS.out.alloc _ _).drew.next hB1 | exact (HS.out.alloc2 _ _ _ _).next hB1 | exact (HS.out.drew.alloc2 _ _ _ _).next hB1 | exact (HS.out.alloc2 _ _ _ _).drew.next hB1)); (replace HS := Lib.hid HS2); (clear HS2); (obtain ⟨fp0, fp1, fp2, _⟩ := HS.out.box); (obtain ⟨fx0, fy0, _, _⟩ := fp0.cells); (obtain ⟨fx1, fy1, _, _⟩ := fp1.cells); (obtain ⟨fx2, fy2, _, _⟩ := fp2.cells); (have hle0_2 : w.heap.size + 1 + 1 < X0_2.heap.size := fp0.lt); (have hle1_2 : w.heap.size + 1 < X0_2.heap.size := fp1.lt); (have hle2_2 : w.heap.size < X0_2.heap.size := fp2.lt))
           | ((have HS2 : StL w X0_2 ((X0_1.heap.size, ⟨#[]⟩, ⟨#[]⟩) :: [(w.heap.size + 1 + 1, hn, hd), (w.heap.size + 1, gn, gd), (w.heap.size, fn, fd)]) := (by first | exact HS.out.next hB1 | exact HS.out.next1 hB1 | exact HS.out.nextD hB1 | exact (HS.out.alloc _ _).next hB1 | exact (HS.out.drew.alloc _ _).next hB1 | exact (HS.out.alloc _ _).drew.next hB1 | exact (HS.out.alloc2 _ _ _ _).next hB1 | exact (HS.out.drew.alloc2 _ _ _ _).next hB1 | exact (HS.out.alloc2 _ _ _ _).drew.next hB1)); (replace HS := Lib.hid HS2); (clear HS2); (obtain ⟨pn0, fp0, fp1, fp2, _⟩ := HS.out.box); (obtain ⟨nx0, ny0, nz0, nw0⟩ := pn0.cells); (have hnp0 : X0_2.heap.size ≠ X0_1.heap.size := World.new_ne _ _ nx0); (have hnq0 : X0_1.heap.size < X0_2.heap.size := pn0.lt); (obtain ⟨fx0, fy0, _, _⟩ := fp0.cells); (obtain ⟨fx1, fy1, _, _⟩ := fp1.cells); (obtain ⟨fx2, fy2, _, _⟩ := fp2.cells); (have hle0_2 : w.heap.size + 1 + 1 < X0_2.heap.size := fp0.lt); (have hle1_2 : w.heap.size + 1 < X0_2.heap.size := fp1.lt); (have hle2_2 : w.heap.size < X0_2.heap.size := fp2.lt); (have hnr0_0 : X0_1.heap.size ≠ w.heap.size + 1 + 1 := (by omega)); (have hnr0_1 : X0_1.heap.size ≠ w.heap.size + 1 := (by omega)); (have hnr0_2 : X0_1.heap.size ≠ w.heap.size := (by omega)))
           | ((have HS2 : StL w X0_2 ((X0_1.heap.size + 1, ⟨#[]⟩, ⟨#[]⟩) :: (X0_1.heap.size, ⟨#[]⟩, ⟨#[]⟩) :: [(w.heap.size + 1 + 1, hn, hd), (w.heap.size + 1, gn, gd), (w.heap.size, fn, fd)]) := (by first | exact HS.out.next hB1 | exact HS.out.next1 hB1 | exact HS.out.nextD hB1 | exact (HS.out.alloc _ _).next hB1 | exact (HS.out.drew.alloc _ _).next hB1 | exact (HS.out.alloc _ _).drew.next hB1 | exact (HS.out.alloc2 _ _ _ _).next hB1 | exact (HS.out.drew.alloc2 _ _ _ _).next hB1 | exact (HS.out.alloc2 _ _ _ _).drew.next hB1)); (replace HS := Lib.hid HS2); (clear HS2); (obtain ⟨pn0, pn1, fp0, fp1, fp2, _⟩ := HS.out.box); (obtain ⟨nx0, ny0, nz0, nw0⟩ := pn0.cells); (have hnp0 : X0_2.heap.size ≠ X0_1.heap.size + 1 := World.new_ne _ _ nx0); (have hnq0 : X0_1.heap.size + 1 < X0_2.heap.size := pn0.lt); (obtain ⟨nx1, ny1, nz1, nw1⟩ := pn1.cells); (have hnp1 : X0_2.heap.size ≠ X0_1.heap.size := World.new_ne _ _ nx1); (have hnq1 : X0_1.heap.size < X0_2.heap.size := pn1.lt); (obtain ⟨fx0, fy0, _, _⟩ := fp0.cells); (obtain ⟨fx1, fy1, _, _⟩ := fp1.cells); (obtain ⟨fx2, fy2, _, _⟩ := fp2.cells); (have hle0_2 : w.heap.size + 1 + 1 < X0_2.heap.size := fp0.lt); (have hle1_2 : w.heap.size + 1 < X0_2.heap.size := fp1.lt); (have hle2_2 : w.heap.size < X0_2.heap.size := fp2.lt); (have hnr0_0 : X0_1.heap.size + 1 ≠ w.heap.size + 1 + 1 := (by omega)); (have hnr0_1 : X0_1.heap.size + 1 ≠ w.heap.size + 1 := (by omega)); (have hnr0_2 : X0_1.heap.size + 1 ≠ w.heap.size := (by omega)); (have hnr1_0 : X0_1.heap.size ≠ w.heap.size + 1 + 1 := (by omega)); (have hnr1_1 : X0_1.heap.size ≠ w.heap.size + 1 := (by omega)); (have hnr1_2 : X0_1.heap.size ≠ w.heap.size := (by omega)); (have hnd01 : X0_1.heap.size + 1 ≠ X0_1.heap.size := (List.pairwise_cons.1 HS.out.nd).1 _ (List.mem_cons_self ..)))
           | ((have HS2 : StL w X0_2 ((W1.heap.size, ⟨#[]⟩, ⟨#[]⟩) :: [(w.heap.size + 1 + 1, hn, hd), (w.heap.size + 1, gn, gd), (w.heap.size, fn, fd)]) := (by first | exact HS.out.next hB1 | exact HS.out.next1 hB1 | exact HS.out.nextD hB1 | exact (HS.out.alloc _ _).next hB1 | exact (HS.out.drew.alloc _ _).next hB1 | exact (HS.out.alloc _ _).drew.next hB1 | exact (HS.out.alloc2 _ _ _ _).next hB1 | exact (HS.out.drew.alloc2 _ _ _ _).next hB1 | exact (HS.out.alloc2 _ _ _ _).drew.next hB1)); (replace HS := Lib.hid HS2); (clear HS2); (obtain ⟨pn0, fp0, fp1, fp2, _⟩ := HS.out.box); (obtain ⟨nx0, ny0, nz0, nw0⟩ := pn0.cells); (have hnp0 : X0_2.heap.size ≠ W1.heap.size := World.new_ne _ _ nx0); (have hnq0 : W1.heap.size < X0_2.heap.size := pn0.lt); (obtain ⟨fx0, fy0, _, _⟩ := fp0.cells); (obtain ⟨fx1, fy1, _, _⟩ := fp1.cells); (obtain ⟨fx2, fy2, _, _⟩ := fp2.cells); (have hle0_2 : w.heap.size + 1 + 1 < X0_2.heap.size := fp0.lt); (have hle1_2 : w.heap.size + 1 < X0_2.heap.size := fp1.lt); (have hle2_2 : w.heap.size < X0_2.heap.size := fp2.lt); (have hnr0_0 : W1.heap.size ≠ w.heap.size + 1 + 1 := (by omega)); (have hnr0_1 : W1.heap.size ≠ w.heap.size + 1 := (by omega)); (have hnr0_2 : W1.heap.size ≠ w.heap.size := (by omega)))
           | ((have HS2 : StL w X0_2 ((X0_1.heap.size, ⟨#[]⟩, ⟨#[]⟩) :: (W1.heap.size, ⟨#[]⟩, ⟨#[]⟩) :: [(w.heap.size + 1 + 1, hn, hd), (w.heap.size + 1, gn, gd), (w.heap.size, fn, fd)]) := (by first | exact HS.out.next hB1 | exact HS.out.next1 hB1 | exact HS.out.nextD hB1 | exact (HS.out.alloc _ _).next hB1 | exact (HS.out.drew.alloc _ _).next hB1 | exact (HS.out.alloc _ _).drew.next hB1 | exact (HS.out.alloc2 _ _ _ _).next hB1 | exact (HS.out.drew.alloc2 _ _ _ _).next hB1 | exact (HS.out.alloc2 _ _ _ _).drew.next hB1)); (replace HS := Lib.hid HS2); (clear HS2); (obtain ⟨pn0, pn1, fp0, fp1, fp2, _⟩ := HS.out.box); (obtain ⟨nx0, ny0, nz0, nw0⟩ := pn0.cells); (have hnp0 : X0_2.heap.size ≠ X0_1.heap.size := World.new_ne _ _ nx0); (have hnq0 : X0_1.heap.size < X0_2.heap.size := pn0.lt); (obtain ⟨nx1, ny1, nz1, nw1⟩ := pn1.cells); (have hnp1 : X0_2.heap.size ≠ W1.heap.size := World.new_ne _ _ nx1); (have hnq1 : W1.heap.size < X0_2.heap.size := pn1.lt); (obtain ⟨fx0, fy0, _, _⟩ := fp0.cells); (obtain ⟨fx1, fy1, _, _⟩ := fp1.cells); (obtain ⟨fx2, fy2, _, _⟩ := fp2.cells); (have hle0_2 : w.heap.size + 1 + 1 < X0_2.heap.size := fp0.lt); (have hle1_2 : w.heap.size + 1 < X0_2.heap.size := fp1.lt); (have hle2_2 : w.heap.size < X0_2.heap.size := fp2.lt); (have hnr0_0 : X0_1.heap.size ≠ w.heap.size + 1 + 1 := (by omega)); (have hnr0_1 : X0_1.heap.size ≠ w.heap.size + 1 := (by omega)); (have hnr0_2 : X0_1.heap.size ≠ w.heap.size := (by omega)); (have hnr1_0 : W1.heap.size ≠ w.heap.size + 1 + 1 := (by omega)); (have hnr1_1 : W1.heap.size ≠ w.heap.size + 1 := (by omega)); (have hnr1_2 : W1.heap.size ≠ w.heap.size := (by omega)); (have hnd01 : X0_1.heap.size ≠ W1.heap.size := (List.pairwise_cons.1 HS.out.nd).1 _ (List.mem_cons_self ..)))
           | ((have HS2 : StL w X0_2 ((W1.heap.size + 1, ⟨#[]⟩, ⟨#[]⟩) :: (W1.heap.size, ⟨#[]⟩, ⟨#[]⟩) :: [(w.heap.size + 1 + 1, hn, hd), (w.heap.size + 1, gn, gd), (w.heap.size, fn, fd)]) := (by first | exact HS.out.next hB1 | exact HS.out.next1 hB1 | exact HS.out.nextD hB1 | exact (HS.out.alloc _ _).next hB1 | exact (HS.out.drew.alloc _ _).next hB1 | exact (HS.out.alloc _ _).drew.next hB1 | exact (HS.out.alloc2 _ _ _ _).next hB1 | exact (HS.out.drew.alloc2 _ _ _ _).next hB1 | exact (HS.out.alloc2 _ _ _ _).drew.next hB1)); (replace HS := Lib.hid HS2); (clear HS2); (obtain ⟨pn0, pn1, fp0, fp1, fp2, _⟩ := HS.out.box); (obtain ⟨nx0, ny0, nz0, nw0⟩ := pn0.cells); (have hnp0 : X0_2.heap.size ≠ W1.heap.size + 1 := World.new_ne _ _ nx0); (have hnq0 : W1.heap.size + 1 < X0_2.heap.size := pn0.lt); (obtain ⟨nx1, ny1, nz1, nw1⟩ := pn1.cells); (have hnp1 : X0_2.heap.size ≠ W1.heap.size := World.new_ne _ _ nx1); (have hnq1 : W1.heap.size < X0_2.heap.size := pn1.lt); (obtain ⟨fx0, fy0, _, _⟩ := fp0.cells); (obtain ⟨fx1, fy1, _, _⟩ := fp1.cells); (obtain ⟨fx2, fy2, _, _⟩ := fp2.cells); (have hle0_2 : w.heap.size + 1 + 1 < X0_2.heap.size := fp0.lt); (have hle1_2 : w.heap.size + 1 < X0_2.heap.size := fp1.lt); (have hle2_2 : w.heap.size < X0_2.heap.size := fp2.lt); (have hnr0_0 : W1.heap.size + 1 ≠ w.heap.size + 1 + 1 := (by omega)); (have hnr0_1 : W1.heap.size + 1 ≠ w.heap.size + 1 := (by omega)); (have hnr0_2 : W1.heap.size + 1 ≠ w.heap.size := (by omega)); (have hnr1_0 : W1.heap.size ≠ w.heap.size + 1 + 1 := (by omega)); (have hnr1_1 : W1.heap.size ≠ w.heap.size + 1 := (by omega)); (have hnr1_2 : W1.heap.size ≠ w.heap.size := (by omega)); (have hnd01 : W1.heap.size + 1 ≠ W1.heap.size := (List.pairwise_cons.1 HS.out.nd).1 _ (List.mem_cons_self ..))));
         (clear hB1);
         (have hne0 : X0_2.heap.size ≠ w.heap.size + 1 + 1 := World.new_ne X0_2 _ fx0);
         (have hne1 : X0_2.heap.size ≠ w.heap.size + 1 := World.new_ne X0_2 _ fx1);
         (have hne2 : X0_2.heap.size ≠ w.heap.size := World.new_ne X0_2 _ fx2)))
    all_goals go_wp2_with fail
    all_goals go_meet
    all_goals refine ⟨_, _, rfl, rfl, ?_⟩
    all_goals first
      | with_reducible exact (HS.out.alloc2 _ _ _ _).swap
      | with_reducible exact HS.out.alloc2 _ _ _ _
      | with_reducible exact (StL.fillA hG HS.out _ _ _ _).swap
      | with_reducible exact StL.fillA hG HS.out _ _ _ _
      | with_reducible exact (StL.fill hG (StL.fill hG HS.out _ _).swap _ _).swap
      | with_reducible exact (StL.fill hG (StL.fill hG HS.out.swap _ _).swap _ _).swap
      | with_reducible exact (HS.out.drew.alloc2 _ _ _ _).swap
      | with_reducible exact HS.out.drew.alloc2 _ _ _ _
      | with_reducible exact (StL.fillA hG HS.out.drew _ _ _ _).swap
      | with_reducible exact StL.fillA hG HS.out.drew _ _ _ _
      | with_reducible exact (StL.fill hG (StL.fill hG HS.out.drew _ _).swap _ _).swap
      | with_reducible exact (StL.fill hG (StL.fill hG HS.out.drew.swap _ _).swap _ _).swap
      | (trace_state; sorry)
  clear HS hne0 hle0_0 hne1 hle1_0 hne2 hle2_0
  clear fp0 fx0 fy0 fp1 fx1 fy1 fp2 fx2 fy2
  obtain ⟨b0_0, b0_1, rfl, rfl, hS⟩ := hcut
  obtain ⟨w1, hw⟩ : ∃ W, W = wc := ⟨_, rfl⟩
  rw [← hw] at hS
  rw [← hw]
  clear hw
  obtain ⟨fp0, fp1, fp2, fp3, fp4, _⟩ := hS.box
  obtain ⟨fx0, fy0, _, _⟩ := fp0.cells
  obtain ⟨fx1, fy1, _, _⟩ := fp1.cells
  obtain ⟨fx2, fy2, _, _⟩ := fp2.cells
  obtain ⟨fx3, fy3, _, _⟩ := fp3.cells
  obtain ⟨fx4, fy4, _, _⟩ := fp4.cells
  have hgu := frac_guards
  have heq := frac_same
  try go_upto_region 4 with fail
  have HS := Lib.hid hS
  clear hS
  go_cut [9] (fun s9 wx => s9 = .bool true ∧ StL w wx [(b0_0, (cS (addP x y).1), (cD (addP x y).2)), (b0_1, (cS (mulP x y).1), (cD (mulP x y).2)), (w.heap.size + 1 + 1, hn, hd), (w.heap.size + 1, gn, gd), (w.heap.size, fn, fd)])
  case first =>
    go_region_held3 (fun w' => w'.cell? ⟨b0_0, 0, none⟩ = some (.string (cS (addP x y).1)) ∧ w'.cell? ⟨b0_0, 1, none⟩ = some (.string (cD (addP x y).2)) ∧ w'.cell? ⟨b0_1, 0, none⟩ = some (.string (cS (mulP x y).1)) ∧ w'.cell? ⟨b0_1, 1, none⟩ = some (.string (cD (mulP x y).2)) ∧ w'.cell? ⟨w.heap.size + 1 + 1, 0, none⟩ = some (.string hn) ∧ w'.cell? ⟨w.heap.size + 1 + 1, 1, none⟩ = some (.string hd) ∧ w'.cell? ⟨w.heap.size + 1, 0, none⟩ = some (.string gn) ∧ w'.cell? ⟨w.heap.size + 1, 1, none⟩ = some (.string gd) ∧ w'.cell? ⟨w.heap.size, 0, none⟩ = some (.string fn) ∧ w'.cell? ⟨w.heap.size, 1, none⟩ = some (.string fd))
      (go_keep)
      (first
    | (go_at_call 11;
         (first
           | (with_reducible refine Calls.mono (fAdd_v (z := addP x y) _ (by first | exact HS.out.g | exact HS.out.drew.g | exact (HS.out.drewN _).g) (Hg.arg (by decide)) (Hf.arg (by decide)) (addP_comm y x)) ?_));
         (rintro e WX ⟨rfl, hB1⟩);
         (have HS2 : StL w WX [(b0_0, (cS (addP x y).1), (cD (addP x y).2)), (b0_1, (cS (mulP x y).1), (cD (mulP x y).2)), (w.heap.size + 1 + 1, hn, hd), (w.heap.size + 1, gn, gd), (w.heap.size, fn, fd)] := (by first | exact HS.out.next hB1 | exact HS.out.next1 hB1 | exact HS.out.nextD hB1));
         (replace HS := Lib.hid HS2);
         (clear hB1 HS2);
         (obtain ⟨fp0, fp1, fp2, fp3, fp4, _⟩ := HS.out.box);
         (obtain ⟨fx0, fy0, _, _⟩ := fp0.cells);
         (obtain ⟨fx1, fy1, _, _⟩ := fp1.cells);
         (obtain ⟨fx2, fy2, _, _⟩ := fp2.cells);
         (obtain ⟨fx3, fy3, _, _⟩ := fp3.cells);
         (obtain ⟨fx4, fy4, _, _⟩ := fp4.cells))
    | (go_at_call 12;
         (first
           | (with_reducible refine Calls.mono (fMul_v (z := mulP x y) _ (by first | exact HS.out.g | exact HS.out.drew.g | exact (HS.out.drewN _).g) (Hg.arg (by decide)) (Hf.arg (by decide)) (mulP_comm y x)) ?_));
         (rintro e WX ⟨rfl, hB1⟩);
         (have HS2 : StL w WX [(b0_0, (cS (addP x y).1), (cD (addP x y).2)), (b0_1, (cS (mulP x y).1), (cD (mulP x y).2)), (w.heap.size + 1 + 1, hn, hd), (w.heap.size + 1, gn, gd), (w.heap.size, fn, fd)] := (by first | exact HS.out.next hB1 | exact HS.out.next1 hB1 | exact HS.out.nextD hB1));
         (replace HS := Lib.hid HS2);
         (clear hB1 HS2);
         (obtain ⟨fp0, fp1, fp2, fp3, fp4, _⟩ := HS.out.box);
         (obtain ⟨fx0, fy0, _, _⟩ := fp0.cells);
         (obtain ⟨fx1, fy1, _, _⟩ := fp1.cells);
         (obtain ⟨fx2, fy2, _, _⟩ := fp2.cells);
         (obtain ⟨fx3, fy3, _, _⟩ := fp3.cells);
         (obtain ⟨fx4, fy4, _, _⟩ := fp4.cells)))
    all_goals go_wp2_with fail
    all_goals go_meet
    all_goals exact ⟨rfl, (by first | exact HS.out | exact HS.out.drew | exact HS.out.drewN _)⟩
  clear HS
  clear fp0 fx0 fy0 fp1 fx1 fy1 fp2 fx2 fy2 fp3 fx3 fy3 fp4 fx4 fy4
  obtain ⟨rfl, hS⟩ := hcut
  obtain ⟨w2, hw⟩ : ∃ W, W = wc := ⟨_, rfl⟩
  rw [← hw] at hS
  rw [← hw]
  clear hw
  obtain ⟨fp0, fp1, fp2, fp3, fp4, _⟩ := hS.box
  obtain ⟨fx0, fy0, _, _⟩ := fp0.cells
  obtain ⟨fx1, fy1, _, _⟩ := fp1.cells
  obtain ⟨fx2, fy2, _, _⟩ := fp2.cells
  obtain ⟨fx3, fy3, _, _⟩ := fp3.cells
  obtain ⟨fx4, fy4, _, _⟩ := fp4.cells
  try go_upto_region 5 with fail
  have HS := Lib.hid hS
  clear hS
  go_cut [9] (fun s9 wx => s9 = .bool true ∧ StL w wx [(b0_0, (cS (addP x y).1), (cD (addP x y).2)), (b0_1, (cS (mulP x y).1), (cD (mulP x y).2)), (w.heap.size + 1 + 1, hn, hd), (w.heap.size + 1, gn, gd), (w.heap.size, fn, fd)])
  case first =>
    go_region_held3 (fun w' => w'.cell? ⟨b0_0, 0, none⟩ = some (.string (cS (addP x y).1)) ∧ w'.cell? ⟨b0_0, 1, none⟩ = some (.string (cD (addP x y).2)) ∧ w'.cell? ⟨b0_1, 0, none⟩ = some (.string (cS (mulP x y).1)) ∧ w'.cell? ⟨b0_1, 1, none⟩ = some (.string (cD (mulP x y).2)) ∧ w'.cell? ⟨w.heap.size + 1 + 1, 0, none⟩ = some (.string hn) ∧ w'.cell? ⟨w.heap.size + 1 + 1, 1, none⟩ = some (.string hd) ∧ w'.cell? ⟨w.heap.size + 1, 0, none⟩ = some (.string gn) ∧ w'.cell? ⟨w.heap.size + 1, 1, none⟩ = some (.string gd) ∧ w'.cell? ⟨w.heap.size, 0, none⟩ = some (.string fn) ∧ w'.cell? ⟨w.heap.size, 1, none⟩ = some (.string fd))
      (go_keep)
      (first
    | (go_at_call 11;
         (first
           | (with_reducible refine Calls.mono (fAdd_v (z := addP (addP x y) z) _ (by first | exact HS.out.g | exact HS.out.drew.g | exact (HS.out.drewN _).g) (Val.of (k := 121) (CapP.add (Hf.cap (by decide)) (Hg.cap (by decide)) Hf.pos Hg.pos) (addP_pos Hf.pos Hg.pos) (by decide)) (Hh.arg (by decide)) (rfl)) ?_)
           | (with_reducible refine Calls.mono (fAdd_v (z := addP y z) _ (by first | exact HS.out.g | exact HS.out.drew.g | exact (HS.out.drewN _).g) (Hg.arg (by decide)) (Hh.arg (by decide)) (rfl)) ?_)
           | (with_reducible refine Calls.mono (fAdd_v (z := addP (addP x y) z) _ (by first | exact HS.out.g | exact HS.out.drew.g | exact (HS.out.drewN _).g) (Hf.arg (by decide)) (Val.of (k := 121) (CapP.add (Hg.cap (by decide)) (Hh.cap (by decide)) Hg.pos Hh.pos) (addP_pos Hg.pos Hh.pos) (by decide)) ((addP_assoc xp yp zp).symm)) ?_));
         (rintro e WX ⟨rfl, hB1⟩);
         (have HS2 : StL w WX [(b0_0, (cS (addP x y).1), (cD (addP x y).2)), (b0_1, (cS (mulP x y).1), (cD (mulP x y).2)), (w.heap.size + 1 + 1, hn, hd), (w.heap.size + 1, gn, gd), (w.heap.size, fn, fd)] := (by first | exact HS.out.next hB1 | exact HS.out.next1 hB1 | exact HS.out.nextD hB1));
         (replace HS := Lib.hid HS2);
         (clear hB1 HS2);
         (obtain ⟨fp0, fp1, fp2, fp3, fp4, _⟩ := HS.out.box);
         (obtain ⟨fx0, fy0, _, _⟩ := fp0.cells);
         (obtain ⟨fx1, fy1, _, _⟩ := fp1.cells);
         (obtain ⟨fx2, fy2, _, _⟩ := fp2.cells);
         (obtain ⟨fx3, fy3, _, _⟩ := fp3.cells);
         (obtain ⟨fx4, fy4, _, _⟩ := fp4.cells))
    | (go_at_call 12;
         (first
           | (with_reducible refine Calls.mono (fMul_v (z := mulP (mulP x y) z) _ (by first | exact HS.out.g | exact HS.out.drew.g | exact (HS.out.drewN _).g) (Val.of (k := 120) (CapP.mul (Hf.cap (by decide)) (Hg.cap (by decide)) Hf.pos Hg.pos) (mulP_pos Hf.pos Hg.pos) (by decide)) (Hh.arg (by decide)) (rfl)) ?_)
           | (with_reducible refine Calls.mono (fMul_v (z := mulP y z) _ (by first | exact HS.out.g | exact HS.out.drew.g | exact (HS.out.drewN _).g) (Hg.arg (by decide)) (Hh.arg (by decide)) (rfl)) ?_)
           | (with_reducible refine Calls.mono (fMul_v (z := mulP (mulP x y) z) _ (by first | exact HS.out.g | exact HS.out.drew.g | exact (HS.out.drewN _).g) (Hf.arg (by decide)) (Val.of (k := 120) (CapP.mul (Hg.cap (by decide)) (Hh.cap (by decide)) Hg.pos Hh.pos) (mulP_pos Hg.pos Hh.pos) (by decide)) ((mulP_assoc xp yp zp).symm)) ?_));
         (rintro e WX ⟨rfl, hB1⟩);
         (have HS2 : StL w WX [(b0_0, (cS (addP x y).1), (cD (addP x y).2)), (b0_1, (cS (mulP x y).1), (cD (mulP x y).2)), (w.heap.size + 1 + 1, hn, hd), (w.heap.size + 1, gn, gd), (w.heap.size, fn, fd)] := (by first | exact HS.out.next hB1 | exact HS.out.next1 hB1 | exact HS.out.nextD hB1));
         (replace HS := Lib.hid HS2);
         (clear hB1 HS2);
         (obtain ⟨fp0, fp1, fp2, fp3, fp4, _⟩ := HS.out.box);
         (obtain ⟨fx0, fy0, _, _⟩ := fp0.cells);
         (obtain ⟨fx1, fy1, _, _⟩ := fp1.cells);
         (obtain ⟨fx2, fy2, _, _⟩ := fp2.cells);
         (obtain ⟨fx3, fy3, _, _⟩ := fp3.cells);
         (obtain ⟨fx4, fy4, _, _⟩ := fp4.cells)))
    all_goals go_wp2_with fail
    all_goals go_meet
    all_goals exact ⟨rfl, (by first | exact HS.out | exact HS.out.drew | exact HS.out.drewN _)⟩
  clear HS
  clear fp0 fx0 fy0 fp1 fx1 fy1 fp2 fx2 fy2 fp3 fx3 fy3 fp4 fx4 fy4
  obtain ⟨rfl, hS⟩ := hcut
  obtain ⟨w3, hw⟩ : ∃ W, W = wc := ⟨_, rfl⟩
  rw [← hw] at hS
  rw [← hw]
  clear hw
  obtain ⟨fp0, fp1, fp2, fp3, fp4, _⟩ := hS.box
  obtain ⟨fx0, fy0, _, _⟩ := fp0.cells
  obtain ⟨fx1, fy1, _, _⟩ := fp1.cells
  obtain ⟨fx2, fy2, _, _⟩ := fp2.cells
  obtain ⟨fx3, fy3, _, _⟩ := fp3.cells
  obtain ⟨fx4, fy4, _, _⟩ := fp4.cells
  try go_upto_region 6 with fail
  have HS := Lib.hid hS
  clear hS
  go_cut [9] (fun s9 wx => s9 = .bool true ∧ StL w wx [(b0_0, (cS (addP x y).1), (cD (addP x y).2)), (b0_1, (cS (mulP x y).1), (cD (mulP x y).2)), (w.heap.size + 1 + 1, hn, hd), (w.heap.size + 1, gn, gd), (w.heap.size, fn, fd)])
  case first =>
    go_region_held3 (fun w' => w'.cell? ⟨b0_0, 0, none⟩ = some (.string (cS (addP x y).1)) ∧ w'.cell? ⟨b0_0, 1, none⟩ = some (.string (cD (addP x y).2)) ∧ w'.cell? ⟨b0_1, 0, none⟩ = some (.string (cS (mulP x y).1)) ∧ w'.cell? ⟨b0_1, 1, none⟩ = some (.string (cD (mulP x y).2)) ∧ w'.cell? ⟨w.heap.size + 1 + 1, 0, none⟩ = some (.string hn) ∧ w'.cell? ⟨w.heap.size + 1 + 1, 1, none⟩ = some (.string hd) ∧ w'.cell? ⟨w.heap.size + 1, 0, none⟩ = some (.string gn) ∧ w'.cell? ⟨w.heap.size + 1, 1, none⟩ = some (.string gd) ∧ w'.cell? ⟨w.heap.size, 0, none⟩ = some (.string fn) ∧ w'.cell? ⟨w.heap.size, 1, none⟩ = some (.string fd))
      (go_keep)
      (first
    | (go_at_call 12;
         (first
           | (with_reducible refine Calls.mono (fMul_v (z := mulP (addP x y) z) _ (by first | exact HS.out.g | exact HS.out.drew.g | exact (HS.out.drewN _).g) (Val.of (k := 121) (CapP.add (Hf.cap (by decide)) (Hg.cap (by decide)) Hf.pos Hg.pos) (addP_pos Hf.pos Hg.pos) (by decide)) (Hh.arg (by decide)) (rfl)) ?_)
           | (with_reducible refine Calls.mono (fMul_v (z := mulP x z) _ (by first | exact HS.out.g | exact HS.out.drew.g | exact (HS.out.drewN _).g) (Hf.arg (by decide)) (Hh.arg (by decide)) (rfl)) ?_)
           | (with_reducible refine Calls.mono (fMul_v (z := mulP y z) _ (by first | exact HS.out.g | exact HS.out.drew.g | exact (HS.out.drewN _).g) (Hg.arg (by decide)) (Hh.arg (by decide)) (rfl)) ?_));
         (rintro e WX ⟨rfl, hB1⟩);
         (have HS2 : StL w WX [(b0_0, (cS (addP x y).1), (cD (addP x y).2)), (b0_1, (cS (mulP x y).1), (cD (mulP x y).2)), (w.heap.size + 1 + 1, hn, hd), (w.heap.size + 1, gn, gd), (w.heap.size, fn, fd)] := (by first | exact HS.out.next hB1 | exact HS.out.next1 hB1 | exact HS.out.nextD hB1));
         (replace HS := Lib.hid HS2);
         (clear hB1 HS2);
         (obtain ⟨fp0, fp1, fp2, fp3, fp4, _⟩ := HS.out.box);
         (obtain ⟨fx0, fy0, _, _⟩ := fp0.cells);
         (obtain ⟨fx1, fy1, _, _⟩ := fp1.cells);
         (obtain ⟨fx2, fy2, _, _⟩ := fp2.cells);
         (obtain ⟨fx3, fy3, _, _⟩ := fp3.cells);
         (obtain ⟨fx4, fy4, _, _⟩ := fp4.cells))
    | (go_at_call 11;
         (first
           | (with_reducible refine Calls.mono (fAdd_v (z := mulP (addP x y) z) _ (by first | exact HS.out.g | exact HS.out.drew.g | exact (HS.out.drewN _).g) (Val.of (k := 120) (CapP.mul (Hf.cap (by decide)) (Hh.cap (by decide)) Hf.pos Hh.pos) (mulP_pos Hf.pos Hh.pos) (by decide)) (Val.of (k := 120) (CapP.mul (Hg.cap (by decide)) (Hh.cap (by decide)) Hg.pos Hh.pos) (mulP_pos Hg.pos Hh.pos) (by decide)) ((mulP_addP xp yp zp).symm)) ?_));
         (rintro e WX ⟨rfl, hB1⟩);
         (have HS2 : StL w WX [(b0_0, (cS (addP x y).1), (cD (addP x y).2)), (b0_1, (cS (mulP x y).1), (cD (mulP x y).2)), (w.heap.size + 1 + 1, hn, hd), (w.heap.size + 1, gn, gd), (w.heap.size, fn, fd)] := (by first | exact HS.out.next hB1 | exact HS.out.next1 hB1 | exact HS.out.nextD hB1));
         (replace HS := Lib.hid HS2);
         (clear hB1 HS2);
         (obtain ⟨fp0, fp1, fp2, fp3, fp4, _⟩ := HS.out.box);
         (obtain ⟨fx0, fy0, _, _⟩ := fp0.cells);
         (obtain ⟨fx1, fy1, _, _⟩ := fp1.cells);
         (obtain ⟨fx2, fy2, _, _⟩ := fp2.cells);
         (obtain ⟨fx3, fy3, _, _⟩ := fp3.cells);
         (obtain ⟨fx4, fy4, _, _⟩ := fp4.cells)))
    all_goals go_wp2_with fail
    all_goals go_meet
    all_goals exact ⟨rfl, (by first | exact HS.out | exact HS.out.drew | exact HS.out.drewN _)⟩
  clear HS
  clear fp0 fx0 fy0 fp1 fx1 fy1 fp2 fx2 fy2 fp3 fx3 fy3 fp4 fx4 fy4
  obtain ⟨rfl, hS⟩ := hcut
  obtain ⟨w4, hw⟩ : ∃ W, W = wc := ⟨_, rfl⟩
  rw [← hw] at hS
  rw [← hw]
  clear hw
  try go_upto_region 7 with fail
  obtain ⟨fp0, fp1, fp2, fp3, fp4, _⟩ := hS.box
  obtain ⟨fx0, fy0, _, _⟩ := fp0.cells
  obtain ⟨fx1, fy1, _, _⟩ := fp1.cells
  obtain ⟨fx2, fy2, _, _⟩ := fp2.cells
  obtain ⟨fx3, fy3, _, _⟩ := fp3.cells
  obtain ⟨fx4, fy4, _, _⟩ := fp4.cells
  go_wp2_with fail
  clear fp0 fx0 fy0 fp1 fx1 fy1 fp2 fx2 fy2 fp3 fx3 fy3 fp4 fx4 fy4
  refine Calls.mono (fAdd_v (z := low x) _ hS.g (Hf.arg (by decide)) Val.zero (addP_zero)) ?_
  rintro _ w5 ⟨rfl, hB⟩
  replace hS := hS.next hB
  clear hB
  go_upto_region 8 with fail
  obtain ⟨b6, hb6⟩ : ∃ b, b = w5.heap.size := ⟨_, rfl⟩
  obtain ⟨V6, hV6⟩ : ∃ V, V = w5.alloc (.cells #[.string (cS (low x).1), .string (cD (low x).2)] 24) := ⟨_, rfl⟩
  have hT : StL w V6 [(b6, (cS (low x).1), (cD (low x).2)), (b0_0, (cS (addP x y).1), (cD (addP x y).2)), (b0_1, (cS (mulP x y).1), (cD (mulP x y).2)), (w.heap.size + 1 + 1, hn, hd), (w.heap.size + 1, gn, gd), (w.heap.size, fn, fd)] := by rw [hV6, hb6]; exact hS.alloc _ _
  rw [← hb6, ← hV6]
  clear hV6 hb6 hS
  have hS := hT
  clear hT
  obtain ⟨fp0, fp1, fp2, fp3, fp4, fp5, _⟩ := hS.box
  obtain ⟨fx0, fy0, _, _⟩ := fp0.cells
  obtain ⟨fx1, fy1, _, _⟩ := fp1.cells
  obtain ⟨fx2, fy2, _, _⟩ := fp2.cells
  obtain ⟨fx3, fy3, _, _⟩ := fp3.cells
  obtain ⟨fx4, fy4, _, _⟩ := fp4.cells
  obtain ⟨fx5, fy5, _, _⟩ := fp5.cells
  try go_upto_region 8 with fail
  have HS := Lib.hid hS
  clear hS
  go_cut [9] (fun s9 wx => s9 = .bool true ∧ StL w wx [(b6, (cS (low x).1), (cD (low x).2)), (b0_0, (cS (addP x y).1), (cD (addP x y).2)), (b0_1, (cS (mulP x y).1), (cD (mulP x y).2)), (w.heap.size + 1 + 1, hn, hd), (w.heap.size + 1, gn, gd), (w.heap.size, fn, fd)])
  case first =>
    go_region_held3 (fun w' => w'.cell? ⟨b6, 0, none⟩ = some (.string (cS (low x).1)) ∧ w'.cell? ⟨b6, 1, none⟩ = some (.string (cD (low x).2)) ∧ w'.cell? ⟨b0_0, 0, none⟩ = some (.string (cS (addP x y).1)) ∧ w'.cell? ⟨b0_0, 1, none⟩ = some (.string (cD (addP x y).2)) ∧ w'.cell? ⟨b0_1, 0, none⟩ = some (.string (cS (mulP x y).1)) ∧ w'.cell? ⟨b0_1, 1, none⟩ = some (.string (cD (mulP x y).2)) ∧ w'.cell? ⟨w.heap.size + 1 + 1, 0, none⟩ = some (.string hn) ∧ w'.cell? ⟨w.heap.size + 1 + 1, 1, none⟩ = some (.string hd) ∧ w'.cell? ⟨w.heap.size + 1, 0, none⟩ = some (.string gn) ∧ w'.cell? ⟨w.heap.size + 1, 1, none⟩ = some (.string gd) ∧ w'.cell? ⟨w.heap.size, 0, none⟩ = some (.string fn) ∧ w'.cell? ⟨w.heap.size, 1, none⟩ = some (.string fd))
      (go_keep)
      (first
    | (go_at_call 13;
         (first
           | (with_reducible refine Calls.mono (fSub_v (z := low x) _ (by first | exact HS.out.g | exact HS.out.drew.g | exact (HS.out.drewN _).g) (Val.of (k := 121) (CapP.add (Hf.cap (by decide)) (Hg.cap (by decide)) Hf.pos Hg.pos) (addP_pos Hf.pos Hg.pos) (by decide)) (Hg.arg (by decide)) ((subP_eq (addP_pos xp yp) yp).trans (sub_add xp yp))) ?_)
           | (with_reducible refine Calls.mono (fSub_v (z := subP x y) _ (by first | exact HS.out.g | exact HS.out.drew.g | exact (HS.out.drewN _).g) (Hf.arg (by decide)) (Hg.arg (by decide)) (rfl)) ?_)
           | (with_reducible refine Calls.mono (fSub_v (z := subP y x) _ (by first | exact HS.out.g | exact HS.out.drew.g | exact (HS.out.drewN _).g) (Hg.arg (by decide)) (Hf.arg (by decide)) (rfl)) ?_));
         (rintro e WX ⟨rfl, hB1⟩);
         (have HS2 : StL w WX [(b6, (cS (low x).1), (cD (low x).2)), (b0_0, (cS (addP x y).1), (cD (addP x y).2)), (b0_1, (cS (mulP x y).1), (cD (mulP x y).2)), (w.heap.size + 1 + 1, hn, hd), (w.heap.size + 1, gn, gd), (w.heap.size, fn, fd)] := (by first | exact HS.out.next hB1 | exact HS.out.next1 hB1 | exact HS.out.nextD hB1));
         (replace HS := Lib.hid HS2);
         (clear hB1 HS2);
         (obtain ⟨fp0, fp1, fp2, fp3, fp4, fp5, _⟩ := HS.out.box);
         (obtain ⟨fx0, fy0, _, _⟩ := fp0.cells);
         (obtain ⟨fx1, fy1, _, _⟩ := fp1.cells);
         (obtain ⟨fx2, fy2, _, _⟩ := fp2.cells);
         (obtain ⟨fx3, fy3, _, _⟩ := fp3.cells);
         (obtain ⟨fx4, fy4, _, _⟩ := fp4.cells);
         (obtain ⟨fx5, fy5, _, _⟩ := fp5.cells))
    | (go_at_call 14;
         (first
           | (with_reducible refine Calls.mono (fNeg_v (z := subP x y) _ (by first | exact HS.out.g | exact HS.out.drew.g | exact (HS.out.drewN _).g) (Val.of (k := 121) (CapP.sub (Hg.cap (by decide)) (Hf.cap (by decide)) Hg.pos Hf.pos) (subP_pos Hg.pos Hf.pos) (by decide)) (by rw [subP_eq xp yp, subP_eq yp xp]; exact (sub_swap xp yp).symm)) ?_));
         (rintro e WX ⟨rfl, hB1⟩);
         (have HS2 : StL w WX [(b6, (cS (low x).1), (cD (low x).2)), (b0_0, (cS (addP x y).1), (cD (addP x y).2)), (b0_1, (cS (mulP x y).1), (cD (mulP x y).2)), (w.heap.size + 1 + 1, hn, hd), (w.heap.size + 1, gn, gd), (w.heap.size, fn, fd)] := (by first | exact HS.out.next hB1 | exact HS.out.next1 hB1 | exact HS.out.nextD hB1));
         (replace HS := Lib.hid HS2);
         (clear hB1 HS2);
         (obtain ⟨fp0, fp1, fp2, fp3, fp4, fp5, _⟩ := HS.out.box);
         (obtain ⟨fx0, fy0, _, _⟩ := fp0.cells);
         (obtain ⟨fx1, fy1, _, _⟩ := fp1.cells);
         (obtain ⟨fx2, fy2, _, _⟩ := fp2.cells);
         (obtain ⟨fx3, fy3, _, _⟩ := fp3.cells);
         (obtain ⟨fx4, fy4, _, _⟩ := fp4.cells);
         (obtain ⟨fx5, fy5, _, _⟩ := fp5.cells)))
    all_goals go_wp2_with fail
    all_goals go_meet
    all_goals exact ⟨rfl, (by first | exact HS.out | exact HS.out.drew | exact HS.out.drewN _)⟩
  clear HS
  clear fp0 fx0 fy0 fp1 fx1 fy1 fp2 fx2 fy2 fp3 fx3 fy3 fp4 fx4 fy4 fp5 fx5 fy5
  obtain ⟨rfl, hS⟩ := hcut
  obtain ⟨w7, hw⟩ : ∃ W, W = wc := ⟨_, rfl⟩
  rw [← hw] at hS
  rw [← hw]
  clear hw
  try go_upto_region 9 with fail
  by_cases h0 : y.1 = 0
  · have H0 := Lib.hid h0
    have HC := Lib.hid (show cmpP y (0, 1) = 0 by unfold cmpP; rw [cmp3_zero]; show y.1 * 1 = 0 * y.2; rw [H0.out]; simp)
    clear h0
    obtain ⟨fp0, fp1, fp2, fp3, fp4, fp5, _⟩ := hS.box
    obtain ⟨fx0, fy0, _, _⟩ := fp0.cells
    obtain ⟨fx1, fy1, _, _⟩ := fp1.cells
    obtain ⟨fx2, fy2, _, _⟩ := fp2.cells
    obtain ⟨fx3, fy3, _, _⟩ := fp3.cells
    obtain ⟨fx4, fy4, _, _⟩ := fp4.cells
    obtain ⟨fx5, fy5, _, _⟩ := fp5.cells
    go_wp2_with fail
    clear fp0 fx0 fy0 fp1 fx1 fy1 fp2 fx2 fy2 fp3 fx3 fy3 fp4 fx4 fy4 fp5 fx5 fy5
    refine Calls.mono (fQuo_z _ hS.g (Hg.arg (by decide)) H0.out) ?_
    rintro _ w8 ⟨rfl, hB⟩
    replace hS := hS.next hB
    clear hB
    go_upto_region 10 with fail
    obtain ⟨b9, hb9⟩ : ∃ b, b = w8.heap.size := ⟨_, rfl⟩
    obtain ⟨V9, hV9⟩ : ∃ V, V = w8.alloc (.cells #[.string ⟨#[]⟩, .string ⟨#[]⟩] 24) := ⟨_, rfl⟩
    have hT : StL w V9 [(b9, ⟨#[]⟩, ⟨#[]⟩), (b6, (cS (low x).1), (cD (low x).2)), (b0_0, (cS (addP x y).1), (cD (addP x y).2)), (b0_1, (cS (mulP x y).1), (cD (mulP x y).2)), (w.heap.size + 1 + 1, hn, hd), (w.heap.size + 1, gn, gd), (w.heap.size, fn, fd)] := by rw [hV9, hb9]; exact hS.alloc _ _
    rw [← hb9, ← hV9]
    clear hV9 hb9 hS
    have hS := hT
    clear hT
    obtain ⟨fp0, fp1, fp2, fp3, fp4, fp5, fp6, _⟩ := hS.box
    obtain ⟨fx0, fy0, _, _⟩ := fp0.cells
    obtain ⟨fx1, fy1, _, _⟩ := fp1.cells
    obtain ⟨fx2, fy2, _, _⟩ := fp2.cells
    obtain ⟨fx3, fy3, _, _⟩ := fp3.cells
    obtain ⟨fx4, fy4, _, _⟩ := fp4.cells
    obtain ⟨fx5, fy5, _, _⟩ := fp5.cells
    obtain ⟨fx6, fy6, _, _⟩ := fp6.cells
    go_wp2_with fail
    clear fp0 fx0 fy0 fp1 fx1 fy1 fp2 fx2 fy2 fp3 fx3 fy3 fp4 fx4 fy4 fp5 fx5 fy5 fp6 fx6 fy6
    refine Calls.mono (fCompare_v (c := 0) _ hS.g (Hg.arg (by decide)) Val.zero (HC.out)) ?_
    rintro _ w10 ⟨rfl, hB⟩
    replace hS := hS.next hB
    clear hB
    obtain ⟨fp0, fp1, fp2, fp3, fp4, fp5, fp6, _⟩ := hS.box
    obtain ⟨fx0, fy0, _, _⟩ := fp0.cells
    obtain ⟨fx1, fy1, _, _⟩ := fp1.cells
    obtain ⟨fx2, fy2, _, _⟩ := fp2.cells
    obtain ⟨fx3, fy3, _, _⟩ := fp3.cells
    obtain ⟨fx4, fy4, _, _⟩ := fp4.cells
    obtain ⟨fx5, fy5, _, _⟩ := fp5.cells
    obtain ⟨fx6, fy6, _, _⟩ := fp6.cells
    go_wp2_with fail
    clear fp0 fx0 fy0 fp1 fx1 fy1 fp2 fx2 fy2 fp3 fx3 fy3 fp4 fx4 fy4 fp5 fx5 fy5 fp6 fx6 fy6
    refine Calls.mono (fawake_any _ hS.g) ?_
    rintro _ w11 ⟨rfl, hB⟩
    replace hS := hS.next hB
    clear hB
    obtain ⟨fp0, fp1, fp2, fp3, fp4, fp5, fp6, _⟩ := hS.box
    obtain ⟨fx0, fy0, _, _⟩ := fp0.cells
    obtain ⟨fx1, fy1, _, _⟩ := fp1.cells
    obtain ⟨fx2, fy2, _, _⟩ := fp2.cells
    obtain ⟨fx3, fy3, _, _⟩ := fp3.cells
    obtain ⟨fx4, fy4, _, _⟩ := fp4.cells
    obtain ⟨fx5, fy5, _, _⟩ := fp5.cells
    obtain ⟨fx6, fy6, _, _⟩ := fp6.cells
    go_wp2_with fail
    go_ret
    exact ⟨rfl, hS.below⟩
  · have H0 := Lib.hid h0
    clear h0
    obtain ⟨c, hcv⟩ : ∃ c, cmpP y (0, 1) = c := ⟨_, rfl⟩
    have HC := Lib.hid (And.intro hcv (show c ≠ 0 by rw [← hcv]; unfold cmpP; intro e; rw [cmp3_zero] at e; have e' : y.1 * 1 = 0 * y.2 := e; rw [Int.mul_one, Int.zero_mul] at e'; exact H0.out e'))
    clear hcv
    obtain ⟨fp0, fp1, fp2, fp3, fp4, fp5, _⟩ := hS.box
    obtain ⟨fx0, fy0, _, _⟩ := fp0.cells
    obtain ⟨fx1, fy1, _, _⟩ := fp1.cells
    obtain ⟨fx2, fy2, _, _⟩ := fp2.cells
    obtain ⟨fx3, fy3, _, _⟩ := fp3.cells
    obtain ⟨fx4, fy4, _, _⟩ := fp4.cells
    obtain ⟨fx5, fy5, _, _⟩ := fp5.cells
    go_wp2_with fail
    clear fp0 fx0 fy0 fp1 fx1 fy1 fp2 fx2 fy2 fp3 fx3 fy3 fp4 fx4 fy4 fp5 fx5 fy5
    refine Calls.mono (fQuo_v (z := low x) _ hS.g (Val.of (k := 120) (CapP.mul (Hf.cap (by decide)) (Hg.cap (by decide)) Hf.pos Hg.pos) (mulP_pos Hf.pos Hg.pos) (by decide)) (Hg.arg (by decide)) H0.out (quo_mul xp yp H0.out)) ?_
    rintro _ w8 ⟨rfl, hB⟩
    replace hS := hS.next hB
    clear hB
    go_upto_region 10 with fail
    obtain ⟨b9, hb9⟩ : ∃ b, b = w8.heap.size := ⟨_, rfl⟩
    obtain ⟨V9, hV9⟩ : ∃ V, V = w8.alloc (.cells #[.string (cS (low x).1), .string (cD (low x).2)] 24) := ⟨_, rfl⟩
    have hT : StL w V9 [(b9, (cS (low x).1), (cD (low x).2)), (b6, (cS (low x).1), (cD (low x).2)), (b0_0, (cS (addP x y).1), (cD (addP x y).2)), (b0_1, (cS (mulP x y).1), (cD (mulP x y).2)), (w.heap.size + 1 + 1, hn, hd), (w.heap.size + 1, gn, gd), (w.heap.size, fn, fd)] := by rw [hV9, hb9]; exact hS.alloc _ _
    rw [← hb9, ← hV9]
    clear hV9 hb9 hS
    have hS := hT
    clear hT
    obtain ⟨fp0, fp1, fp2, fp3, fp4, fp5, fp6, _⟩ := hS.box
    obtain ⟨fx0, fy0, _, _⟩ := fp0.cells
    obtain ⟨fx1, fy1, _, _⟩ := fp1.cells
    obtain ⟨fx2, fy2, _, _⟩ := fp2.cells
    obtain ⟨fx3, fy3, _, _⟩ := fp3.cells
    obtain ⟨fx4, fy4, _, _⟩ := fp4.cells
    obtain ⟨fx5, fy5, _, _⟩ := fp5.cells
    obtain ⟨fx6, fy6, _, _⟩ := fp6.cells
    go_wp2_with fail
    clear fp0 fx0 fy0 fp1 fx1 fy1 fp2 fx2 fy2 fp3 fx3 fy3 fp4 fx4 fy4 fp5 fx5 fy5 fp6 fx6 fy6
    refine Calls.mono (fCompare_v (c := c) _ hS.g (Hg.arg (by decide)) Val.zero (HC.out.1)) ?_
    rintro _ w10 ⟨rfl, hB⟩
    replace hS := hS.next hB
    clear hB
    have hc := HC.out.2
    have hcc : (c == 0) = false := by simpa using hc
    obtain ⟨fp0, fp1, fp2, fp3, fp4, fp5, fp6, _⟩ := hS.box
    obtain ⟨fx0, fy0, _, _⟩ := fp0.cells
    obtain ⟨fx1, fy1, _, _⟩ := fp1.cells
    obtain ⟨fx2, fy2, _, _⟩ := fp2.cells
    obtain ⟨fx3, fy3, _, _⟩ := fp3.cells
    obtain ⟨fx4, fy4, _, _⟩ := fp4.cells
    obtain ⟨fx5, fy5, _, _⟩ := fp5.cells
    obtain ⟨fx6, fy6, _, _⟩ := fp6.cells
    go_wp2_with fail
    clear fp0 fx0 fy0 fp1 fx1 fy1 fp2 fx2 fy2 fp3 fx3 fy3 fp4 fx4 fy4 fp5 fx5 fy5 fp6 fx6 fy6
    refine Calls.mono (fawake_any _ hS.g) ?_
    rintro _ w11 ⟨rfl, hB⟩
    replace hS := hS.next hB
    clear hB
    obtain ⟨fp0, fp1, fp2, fp3, fp4, fp5, fp6, _⟩ := hS.box
    obtain ⟨fx0, fy0, _, _⟩ := fp0.cells
    obtain ⟨fx1, fy1, _, _⟩ := fp1.cells
    obtain ⟨fx2, fy2, _, _⟩ := fp2.cells
    obtain ⟨fx3, fy3, _, _⟩ := fp3.cells
    obtain ⟨fx4, fy4, _, _⟩ := fp4.cells
    obtain ⟨fx5, fy5, _, _⟩ := fp5.cells
    obtain ⟨fx6, fy6, _, _⟩ := fp6.cells
    go_wp2_with fail
    go_ret
    exact ⟨rfl, hS.below⟩

set_option maxRecDepth 100000 in
set_option maxHeartbeats 16000000 in
theorem ffield_long (fn fd gn gd hn hd : ByteArray) (w : World) (hG : Ground w) (hl : flong 60 [(fn, fd), (gn, gd), (hn, hd)] = true) :
    Calls Tryd.prog 3 #[.agg #[.string fn, .string fd], .agg #[.string gn, .string gd], .agg #[.string hn, .string hd]] w fun e w' => e = .returned (.bool true) ∧ Below w.heap.size w w' := by
  have HL := Lib.hid hl
  clear hl
  obtain ⟨W0, hW0⟩ : ∃ W0, W0 = ((w.alloc (.cells #[.string fn, .string fd] 24)).alloc (.cells #[.string gn, .string gd] 24)).alloc (.cells #[.string hn, .string hd] 24) := ⟨_, rfl⟩
  have hS : StL w W0 [(w.heap.size + 1 + 1, hn, hd), (w.heap.size + 1, gn, gd), (w.heap.size, fn, fd)] := by rw [hW0]; exact StL.three hG _ _ _ _ _ _
  go_enter Tryd.func3, Tryd.ntmps3
  go_upto_region 1 with fail
  rw [← hW0]
  clear hW0
  obtain ⟨fp0, fp1, fp2, _⟩ := hS.box
  obtain ⟨fx0, fy0, _, _⟩ := fp0.cells
  obtain ⟨fx1, fy1, _, _⟩ := fp1.cells
  obtain ⟨fx2, fy2, _, _⟩ := fp2.cells
  go_wp2_with fail
  obtain ⟨W1, hW1⟩ : ∃ W1, W1 = W0.alloc (.cells #[.string fn, .string fd, .string gn, .string gd, .string hn, .string hd] 24) := ⟨_, rfl⟩
  have hc0 : ∀ i, i < 3 → W1.cell? ⟨W0.heap.size, i * 2, none⟩ = some (.string ([(fn, fd), (gn, gd), (hn, hd)].getD i (⟨#[]⟩, ⟨#[]⟩)).1) ∧ W1.cell? ⟨W0.heap.size, i * 2 + 1, none⟩ = some (.string ([(fn, fd), (gn, gd), (hn, hd)].getD i (⟨#[]⟩, ⟨#[]⟩)).2) := by rw [hW1]; exact fgreat_cells W0 [(fn, fd), (gn, gd), (hn, hd)]
  have hS1 : StL w W1 [(w.heap.size + 1 + 1, hn, hd), (w.heap.size + 1, gn, gd), (w.heap.size, fn, fd)] := by rw [hW1]; exact hS.other _
  rw [← hW1]
  clear fp0 fx0 fy0 fp1 fx1 fy1 fp2 fx2 fy2
  clear hW1 hS
  have hS := hS1
  clear hS1
  refine (rGreat_any W1 W0.heap.size 3 [(fn, fd), (gn, gd), (hn, hd)] rfl (by decide) hc0).mono ?_
  rintro _ _ ⟨rfl, rfl⟩
  clear hc0
  rw [HL.out]
  obtain ⟨fp0, fp1, fp2, _⟩ := hS.box
  obtain ⟨fx0, fy0, _, _⟩ := fp0.cells
  obtain ⟨fx1, fy1, _, _⟩ := fp1.cells
  obtain ⟨fx2, fy2, _, _⟩ := fp2.cells
  go_wp2_with fail
  clear fp0 fx0 fy0 fp1 fx1 fy1 fp2 fx2 fy2
  refine Calls.mono (fawake_any _ hS.g) ?_
  rintro _ w1 ⟨rfl, hB⟩
  replace hS := hS.next hB
  clear hB
  obtain ⟨fp0, fp1, fp2, _⟩ := hS.box
  obtain ⟨fx0, fy0, _, _⟩ := fp0.cells
  obtain ⟨fx1, fy1, _, _⟩ := fp1.cells
  obtain ⟨fx2, fy2, _, _⟩ := fp2.cells
  go_wp2_with fail
  go_ret
  exact ⟨rfl, hS.below⟩

theorem ffield_any (fn fd gn gd hn hd : ByteArray) (w : World) (hG : Ground w) :
    Calls Tryd.prog 3 #[.agg #[.string fn, .string fd], .agg #[.string gn, .string gd], .agg #[.string hn, .string hd]] w fun e w' => e = .returned (.bool true) ∧ Below w.heap.size w w' := by
  by_cases hf : fn.size ≤ 60 ∧ fd.size ≤ 60
  · by_cases hg : gn.size ≤ 60 ∧ gd.size ≤ 60
    · by_cases hh : hn.size ≤ 60 ∧ hd.size ≤ 60
      · exact ffield_in fn fd gn gd hn hd w hG hf.1 hf.2 hg.1 hg.2 hh.1 hh.2
      · exact ffield_long fn fd gn gd hn hd w hG (flong_true (f := (hn, hd)) (by simp) (by show 60 < hn.size ∨ 60 < hd.size; omega))
    · exact ffield_long fn fd gn gd hn hd w hG (flong_true (f := (gn, gd)) (by simp) (by show 60 < gn.size ∨ 60 < gd.size; omega))
  · exact ffield_long fn fd gn gd hn hd w hG (flong_true (f := (fn, fd)) (by simp) (by show 60 < fn.size ∨ 60 < fd.size; omega))

end Go.Proofs.YtldohkfomdcpoaaDoor
