/- the law FractionFloor: the walk. -/
import Derived.Test.YtldohkfomdcpoaaDoorFst
import Derived.Deep.DeepCutAuto
namespace Go.Proofs.YtldohkfomdcpoaaDoor
open Go.RowKit Fra

theorem fAdd_q {q : Int} (w : World) (hG : Ground w) (h : Val (cS q) ⟨#[]⟩ (q, 1) ∧ addP (q, 1) (1, 1) = (q + 1, 1)) :
    Calls Tryd.prog 11 #[.agg #[.string (cS q), .string ⟨#[]⟩], .agg #[.string ⟨#[49]⟩, .string ⟨#[]⟩]] w fun e w' => e = .returned (.agg #[.string (cS (q + 1)), .string ⟨#[]⟩]) ∧ Below w.heap.size w w' := by
  have := fAdd_v (z := (q + 1, 1)) w hG h.1 (m := ⟨#[49]⟩) (e := ⟨#[]⟩) (y := (1, 1)) ⟨raw_one_lit, by decide, by decide⟩ h.2
  unfold FPost at this
  rwa [show cD (q + 1, (1 : Int)).2 = ⟨#[]⟩ from cD_one] at this

theorem fAdd_y {n d : ByteArray} {x : Int × Int} {y : Int} (w : World) (hG : Ground w) (h : Val n d x ∧ Val (cS y) ⟨#[]⟩ (y, 1)) :
    Calls Tryd.prog 11 #[.agg #[.string n, .string d], .agg #[.string (cS y), .string ⟨#[]⟩]] w (FPost w (addP x (y, 1))) := fAdd_v w hG h.1 h.2 rfl

theorem Cap.fdiv {k : Nat} {n d : Int} (h : Cap k n) (hd : 0 < d) : Cap (k + 1) (Int.fdiv n d) := by
  have hb := floor_bounds (n := n) hd
  unfold Cap at *
  rw [Nat.pow_succ]
  generalize Int.fdiv n d = q at *
  have h1 : q ≤ n.natAbs := by
    rcases Int.lt_or_le q 1 with h | h
    · omega
    · have := Int.mul_le_mul_of_nonneg_left (show (1 : Int) ≤ d by omega) (show 0 ≤ q by omega); omega
  have h2 : -(n.natAbs : Int) - 1 ≤ q := by
    rcases Int.lt_or_le q (-1) with h | h
    · have := Int.mul_le_mul_of_nonpos_left (show q + 1 ≤ 0 by omega) (show (1 : Int) ≤ d by omega); omega
    · omega
  omega

set_option maxRecDepth 100000 in
set_option maxHeartbeats 16000000 in
theorem ffloor_in (fn fd a : ByteArray) (w : World) (hG : Ground w) (h1 : fn.size ≤ 60) (h2 : fd.size ≤ 60) (h3 : a.size ≤ 60) :
    Calls Tryd.prog 5 #[.agg #[.string fn, .string fd], .string a] w fun e w' => e = .returned (.bool true) ∧ Below w.heap.size w w' := by
  have hl : flong 60 [(fn, fd), (a, ⟨#[]⟩)] = false := flong_false (by have he : (ByteArray.mk #[]).size = 0 := rfl; simp [he]; omega)
  obtain ⟨x, hx⟩ : ∃ x, raw fn fd = x := ⟨_, rfl⟩
  have Hf : Giv 60 fn fd x := ⟨hx, h1, h2⟩
  obtain ⟨q, hq⟩ : ∃ q, Int.fdiv x.1 x.2 = q := ⟨_, rfl⟩
  obtain ⟨y, hy⟩ : ∃ y, vS a = y := ⟨_, rfl⟩
  have hcq : Cap 61 q := by rw [← hq]; exact Cap.fdiv (Hf.cap (by decide)).1 Hf.pos
  have HQS := Lib.hid (show (cS q).size ≤ 100000 by have := cS_size hcq; omega)
  have hvq : Val (cS q) ⟨#[]⟩ (q, 1) := ⟨by unfold raw; rw [vS_cS, vS_nil]; rfl, by have := cS_size hcq; omega, by decide⟩
  have HVQ := Lib.hid hvq
  have HQA := Lib.hid (And.intro hvq (show addP (q, 1) (1, 1) = (q + 1, 1) by unfold addP; simp [red_one]))
  have hvh : Val (cS (q + 1)) ⟨#[]⟩ (q + 1, 1) := ⟨by unfold raw; rw [vS_cS, vS_nil]; rfl, by have := cS_size (Cap.add hcq (Cap.one (show 1 ≤ 61 by decide))); omega, by decide⟩
  have HVH := Lib.hid hvh
  have hxp := Hf.pos
  have hfb := floor_bounds (n := x.1) hxp
  rw [hq] at hfb
  obtain ⟨c1, hc1⟩ : ∃ c, cmpP (q, 1) x = c := ⟨_, rfl⟩
  obtain ⟨c2, hc2⟩ : ∃ c, cmpP x (q + 1, 1) = c := ⟨_, rfl⟩
  have hd1 : c1 ≤ 0 := by rw [← hc1]; unfold cmpP; rw [cmp3_le]; show q * x.2 ≤ x.1 * 1; omega
  have hd2 : c2 < 0 := by rw [← hc2]; unfold cmpP; rw [cmp3_lt (show x.1 * 1 < (q + 1) * x.2 by omega)]; decide
  have HC1 := Lib.hid (And.intro hc1 hd1)
  have HC2 := Lib.hid (And.intro hc2 hd2)
  have HAS := Lib.hid (show a.size ≤ 100000 by omega)
  have HA4 := Lib.hid (show a.size ≤ 4294967295 by omega)
  have HQ4 := Lib.hid (show (cS q).size ≤ 4294967295 by have := cS_size hcq; omega)
  have hvy : Val (cS y) ⟨#[]⟩ (y, 1) := ⟨by unfold raw; rw [vS_cS, vS_nil]; rfl, by have := cS_size (Cap.of h3 hy); omega, by decide⟩
  have hya : CapP 60 (y, 1) := ⟨Cap.of h3 hy, Cap.one (by decide)⟩
  have HFA := Lib.hid (And.intro (Hf.arg (by decide)) hvy)
  have HVA := Lib.hid (show Val (cS (addP x (y, 1)).1) (cD (addP x (y, 1)).2) (addP x (y, 1)) from Val.of (k := 121) (CapP.add (Hf.cap (by decide)) hya hxp Int.one_pos) (addP_pos hxp Int.one_pos) (by decide))
  have HMV := Lib.hid (show Int.fdiv (addP x (y, 1)).1 (addP x (y, 1)).2 = q + y by
    rw [floor_congr (y := (x.1 * 1 + y * x.2, x.2 * 1)) (addP_pos (y := (y, 1)) hxp Int.one_pos) (by show 0 < x.2 * 1; omega) (show Same (addP x (y, 1)) (x.1 * 1 + y * x.2, x.2 * 1) from same_red _ _)]
    show Int.fdiv (x.1 * 1 + y * x.2) (x.2 * 1) = q + y
    rw [Int.mul_one, Int.mul_one, floor_add _ _ _ hxp, hq])
  have HQ := Lib.hid hq
  have HY := Lib.hid hy
  have HL := Lib.hid hl
  clear hl hx hq hy hcq hvq hvh hfb hc1 hc2 hvy hya hxp
  obtain ⟨W0, hW0⟩ : ∃ W0, W0 = w.alloc (.cells #[.string fn, .string fd] 24) := ⟨_, rfl⟩
  have hS : StL w W0 [(w.heap.size, fn, fd)] := by rw [hW0]; exact StL.one hG _ _
  go_enter Tryd.func5, Tryd.ntmps5
  go_upto_region 1 with fail
  rw [← hW0]
  clear hW0
  obtain ⟨fp0, _⟩ := hS.box
  obtain ⟨fx0, fy0, _, _⟩ := fp0.cells
  go_wp2_with fail
  obtain ⟨W1, hW1⟩ : ∃ W1, W1 = W0.alloc (.cells #[.string fn, .string fd, .string a, .string ⟨#[]⟩] 24) := ⟨_, rfl⟩
  have hc0 : ∀ i, i < 2 → W1.cell? ⟨W0.heap.size, i * 2, none⟩ = some (.string ([(fn, fd), (a, ⟨#[]⟩)].getD i (⟨#[]⟩, ⟨#[]⟩)).1) ∧ W1.cell? ⟨W0.heap.size, i * 2 + 1, none⟩ = some (.string ([(fn, fd), (a, ⟨#[]⟩)].getD i (⟨#[]⟩, ⟨#[]⟩)).2) := by rw [hW1]; exact fgreat_cells W0 [(fn, fd), (a, ⟨#[]⟩)]
  have hS1 : StL w W1 [(w.heap.size, fn, fd)] := by rw [hW1]; exact hS.other _
  rw [← hW1]
  clear fp0 fx0 fy0
  clear hW1 hS
  have hS := hS1
  clear hS1
  refine (rGreat_any W1 W0.heap.size 2 [(fn, fd), (a, ⟨#[]⟩)] rfl (by decide) hc0).mono ?_
  rintro _ _ ⟨rfl, rfl⟩
  clear hc0
  rw [HL.out]
  obtain ⟨fp0, _⟩ := hS.box
  obtain ⟨fx0, fy0, _, _⟩ := fp0.cells
  go_wp2_with fail
  clear fp0 fx0 fy0
  refine Calls.mono (fFloor_v (c := q) _ hS.g (Hf.arg (by decide)) HQ.out) ?_
  rintro _ w1 ⟨rfl, hB⟩
  replace hS := hS.next hB
  clear hB
  obtain ⟨fp0, _⟩ := hS.box
  obtain ⟨fx0, fy0, _, _⟩ := fp0.cells
  go_wp2_with fail
  clear fp0 fx0 fy0
  refine Calls.mono (fOf_v (p := q) _ hS.g HQS.out (vS_cS q)) ?_
  rintro _ w2 ⟨rfl, hB⟩
  replace hS := hS.next hB
  clear hB
  go_upto_region 5 with fail
  obtain ⟨b3, hb3⟩ : ∃ b, b = w2.heap.size := ⟨_, rfl⟩
  obtain ⟨V3, hV3⟩ : ∃ V, V = w2.alloc (.cells #[.string (cS q), .string ⟨#[]⟩] 24) := ⟨_, rfl⟩
  have hT : StL w V3 [(b3, (cS q), ⟨#[]⟩), (w.heap.size, fn, fd)] := by rw [hV3, hb3]; exact hS.alloc _ _
  rw [← hb3, ← hV3]
  clear hV3 hb3 hS
  have hS := hT
  clear hT
  obtain ⟨fp0, fp1, _⟩ := hS.box
  obtain ⟨fx0, fy0, _, _⟩ := fp0.cells
  obtain ⟨fx1, fy1, _, _⟩ := fp1.cells
  try go_upto_region 5 with fail
  have HS := Lib.hid hS
  clear hS
  have hne0 : V3.heap.size ≠ b3 := World.new_ne V3 _ fx0
  have hne1 : V3.heap.size ≠ w.heap.size := World.new_ne V3 _ fx1
  go_cut [7] (fun s7 wx => ∃ b3_0 : Nat, s7 = .pointer (some ⟨b3_0, 0, none⟩) ∧ StL w wx [(b3_0, (cS (q + 1)), ⟨#[]⟩), (b3, (cS q), ⟨#[]⟩), (w.heap.size, fn, fd)])
  case first =>
    go_region_held3 (fun w' => w'.cell? ⟨b3, 0, none⟩ = some (.string (cS q)) ∧ w'.cell? ⟨b3, 1, none⟩ = some (.string ⟨#[]⟩) ∧ w'.cell? ⟨w.heap.size, 0, none⟩ = some (.string fn) ∧ w'.cell? ⟨w.heap.size, 1, none⟩ = some (.string fd))
      (go_keep)
      (first
    | (go_at_call 18;
         (with_reducible refine Calls.mono (fOf_one _ (by first | exact HS.out.g | exact HS.out.drew.g | exact (HS.out.drewN _).g | exact (HS.out.other _).g | exact (HS.out.drew.other _).g | exact (HS.out.other _).drew.g | exact ((HS.out.other _).other _).g | exact ((HS.out.drew.other _).other _).g | exact ((HS.out.other _).other _).drew.g | exact ((HS.out.drew.other _).drew.other _).g | exact ((HS.out.other _).drew.other _).g)) ?_);
         (rintro e X3_1 ⟨rfl, hB1⟩);
         (first
           | ((have HS2 : StL w X3_1 ([(b3, (cS q), ⟨#[]⟩), (w.heap.size, fn, fd)]) := (by first | exact HS.out.next hB1 | exact HS.out.next1 hB1 | exact HS.out.nextD hB1 | exact (HS.out.alloc _ _).next hB1 | exact (HS.out.drew.alloc _ _).next hB1 | exact (HS.out.alloc _ _).drew.next hB1 | exact ((HS.out.alloc _ _).alloc _ _).next hB1 | exact ((HS.out.drew.alloc _ _).alloc _ _).next hB1 | exact ((HS.out.alloc _ _).alloc _ _).drew.next hB1 | exact ((HS.out.alloc _ _).drew.alloc _ _).next hB1 | exact ((HS.out.drew.alloc _ _).drew.alloc _ _).next hB1)); (replace HS := Lib.hid HS2); (clear HS2); (obtain ⟨fp0, fp1, _⟩ := HS.out.box); (obtain ⟨fx0, fy0, _, _⟩ := fp0.cells); (obtain ⟨fx1, fy1, _, _⟩ := fp1.cells))
           | ((have HS2 : StL w X3_1 ((V3.heap.size, ⟨#[]⟩, ⟨#[]⟩) :: [(b3, (cS q), ⟨#[]⟩), (w.heap.size, fn, fd)]) := (by first | exact HS.out.next hB1 | exact HS.out.next1 hB1 | exact HS.out.nextD hB1 | exact (HS.out.alloc _ _).next hB1 | exact (HS.out.drew.alloc _ _).next hB1 | exact (HS.out.alloc _ _).drew.next hB1 | exact ((HS.out.alloc _ _).alloc _ _).next hB1 | exact ((HS.out.drew.alloc _ _).alloc _ _).next hB1 | exact ((HS.out.alloc _ _).alloc _ _).drew.next hB1 | exact ((HS.out.alloc _ _).drew.alloc _ _).next hB1 | exact ((HS.out.drew.alloc _ _).drew.alloc _ _).next hB1)); (replace HS := Lib.hid HS2); (clear HS2); (obtain ⟨pn0, fp0, fp1, _⟩ := HS.out.box); (obtain ⟨nx0, ny0, nz0, nw0⟩ := pn0.cells); (obtain ⟨fx0, fy0, _, _⟩ := fp0.cells); (obtain ⟨fx1, fy1, _, _⟩ := fp1.cells)));
         (clear hB1);
         (have hne0 : X3_1.heap.size ≠ b3 := World.new_ne X3_1 _ fx0);
         (have hne1 : X3_1.heap.size ≠ w.heap.size := World.new_ne X3_1 _ fx1))
    | (go_at_call 11;
         (with_reducible refine Calls.mono (fAdd_q _ (by first | exact HS.out.g | exact HS.out.drew.g | exact (HS.out.drewN _).g | exact (HS.out.other _).g | exact (HS.out.drew.other _).g | exact (HS.out.other _).drew.g | exact ((HS.out.other _).other _).g | exact ((HS.out.drew.other _).other _).g | exact ((HS.out.other _).other _).drew.g | exact ((HS.out.drew.other _).drew.other _).g | exact ((HS.out.other _).drew.other _).g) HQA.out) ?_);
         (rintro e X3_2 ⟨rfl, hB1⟩);
         (first
           | ((have HS2 : StL w X3_2 ([(b3, (cS q), ⟨#[]⟩), (w.heap.size, fn, fd)]) := (by first | exact HS.out.next hB1 | exact HS.out.next1 hB1 | exact HS.out.nextD hB1 | exact (HS.out.alloc _ _).next hB1 | exact (HS.out.drew.alloc _ _).next hB1 | exact (HS.out.alloc _ _).drew.next hB1 | exact ((HS.out.alloc _ _).alloc _ _).next hB1 | exact ((HS.out.drew.alloc _ _).alloc _ _).next hB1 | exact ((HS.out.alloc _ _).alloc _ _).drew.next hB1 | exact ((HS.out.alloc _ _).drew.alloc _ _).next hB1 | exact ((HS.out.drew.alloc _ _).drew.alloc _ _).next hB1)); (replace HS := Lib.hid HS2); (clear HS2); (obtain ⟨fp0, fp1, _⟩ := HS.out.box); (obtain ⟨fx0, fy0, _, _⟩ := fp0.cells); (obtain ⟨fx1, fy1, _, _⟩ := fp1.cells))
           | ((have HS2 : StL w X3_2 ((X3_1.heap.size, ⟨#[]⟩, ⟨#[]⟩) :: [(b3, (cS q), ⟨#[]⟩), (w.heap.size, fn, fd)]) := (by first | exact HS.out.next hB1 | exact HS.out.next1 hB1 | exact HS.out.nextD hB1 | exact (HS.out.alloc _ _).next hB1 | exact (HS.out.drew.alloc _ _).next hB1 | exact (HS.out.alloc _ _).drew.next hB1 | exact ((HS.out.alloc _ _).alloc _ _).next hB1 | exact ((HS.out.drew.alloc _ _).alloc _ _).next hB1 | exact ((HS.out.alloc _ _).alloc _ _).drew.next hB1 | exact ((HS.out.alloc _ _).drew.alloc _ _).next hB1 | exact ((HS.out.drew.alloc _ _).drew.alloc _ _).next hB1)); (replace HS := Lib.hid HS2); (clear HS2); (obtain ⟨pn0, fp0, fp1, _⟩ := HS.out.box); (obtain ⟨nx0, ny0, nz0, nw0⟩ := pn0.cells); (obtain ⟨fx0, fy0, _, _⟩ := fp0.cells); (obtain ⟨fx1, fy1, _, _⟩ := fp1.cells))
           | ((have HS2 : StL w X3_2 ((V3.heap.size, ⟨#[]⟩, ⟨#[]⟩) :: [(b3, (cS q), ⟨#[]⟩), (w.heap.size, fn, fd)]) := (by first | exact HS.out.next hB1 | exact HS.out.next1 hB1 | exact HS.out.nextD hB1 | exact (HS.out.alloc _ _).next hB1 | exact (HS.out.drew.alloc _ _).next hB1 | exact (HS.out.alloc _ _).drew.next hB1 | exact ((HS.out.alloc _ _).alloc _ _).next hB1 | exact ((HS.out.drew.alloc _ _).alloc _ _).next hB1 | exact ((HS.out.alloc _ _).alloc _ _).drew.next hB1 | exact ((HS.out.alloc _ _).drew.alloc _ _).next hB1 | exact ((HS.out.drew.alloc _ _).drew.alloc _ _).next hB1)); (replace HS := Lib.hid HS2); (clear HS2); (obtain ⟨pn0, fp0, fp1, _⟩ := HS.out.box); (obtain ⟨nx0, ny0, nz0, nw0⟩ := pn0.cells); (obtain ⟨fx0, fy0, _, _⟩ := fp0.cells); (obtain ⟨fx1, fy1, _, _⟩ := fp1.cells)));
         (clear hB1);
         (have hne0 : X3_2.heap.size ≠ b3 := World.new_ne X3_2 _ fx0);
         (have hne1 : X3_2.heap.size ≠ w.heap.size := World.new_ne X3_2 _ fx1)))
    all_goals go_wp2_with fail
    all_goals go_meet
    all_goals refine ⟨_, rfl, ?_⟩
    all_goals first
      | exact HS.out.alloc _ _
      | exact StL.fill hG HS.out _ _
      | exact (HS.out.alloc _ _).drew
      | exact HS.out.drew.alloc _ _
      | exact StL.fill hG HS.out.drew _ _
      | exact (HS.out.drew.alloc _ _).drew
      | (trace_state; sorry)
  clear HS hne0 hne1
  clear fp0 fx0 fy0 fp1 fx1 fy1
  obtain ⟨b3_0, rfl, hS⟩ := hcut
  obtain ⟨w4, hw⟩ : ∃ W, W = wc := ⟨_, rfl⟩
  rw [← hw] at hS
  rw [← hw]
  clear hw
  obtain ⟨fp0, fp1, fp2, _⟩ := hS.box
  obtain ⟨fx0, fy0, _, _⟩ := fp0.cells
  obtain ⟨fx1, fy1, _, _⟩ := fp1.cells
  obtain ⟨fx2, fy2, _, _⟩ := fp2.cells
  try go_upto_region 6 with fail
  have HS := Lib.hid hS
  clear hS
  go_cut [8] (fun s8 wx => s8 = .string (cS (q + y)) ∧ StL w wx [(b3_0, (cS (q + 1)), ⟨#[]⟩), (b3, (cS q), ⟨#[]⟩), (w.heap.size, fn, fd)])
  case first =>
    go_region_held3 (fun w' => w'.cell? ⟨b3_0, 0, none⟩ = some (.string (cS (q + 1))) ∧ w'.cell? ⟨b3_0, 1, none⟩ = some (.string ⟨#[]⟩) ∧ w'.cell? ⟨b3, 0, none⟩ = some (.string (cS q)) ∧ w'.cell? ⟨b3, 1, none⟩ = some (.string ⟨#[]⟩) ∧ w'.cell? ⟨w.heap.size, 0, none⟩ = some (.string fn) ∧ w'.cell? ⟨w.heap.size, 1, none⟩ = some (.string fd))
      (go_keep)
      (first
    | (go_at_call 18;
         (first
           | (with_reducible refine Calls.mono (fOf_v (p := y) _ (by first | exact HS.out.g | exact HS.out.drew.g | exact (HS.out.drewN _).g) HAS.out HY.out) ?_));
         (rintro e WX ⟨rfl, hB1⟩);
         (have HS2 : StL w WX [(b3_0, (cS (q + 1)), ⟨#[]⟩), (b3, (cS q), ⟨#[]⟩), (w.heap.size, fn, fd)] := (by first | exact HS.out.next hB1 | exact HS.out.next1 hB1 | exact HS.out.nextD hB1));
         (replace HS := Lib.hid HS2);
         (clear hB1 HS2);
         (obtain ⟨fp0, fp1, fp2, _⟩ := HS.out.box);
         (obtain ⟨fx0, fy0, _, _⟩ := fp0.cells);
         (obtain ⟨fx1, fy1, _, _⟩ := fp1.cells);
         (obtain ⟨fx2, fy2, _, _⟩ := fp2.cells))
    | (go_at_call 11;
         (first
           | (with_reducible refine Calls.mono (fAdd_y _ (by first | exact HS.out.g | exact HS.out.drew.g | exact (HS.out.drewN _).g) HFA.out) ?_));
         (rintro e WX ⟨rfl, hB1⟩);
         (have HS2 : StL w WX [(b3_0, (cS (q + 1)), ⟨#[]⟩), (b3, (cS q), ⟨#[]⟩), (w.heap.size, fn, fd)] := (by first | exact HS.out.next hB1 | exact HS.out.next1 hB1 | exact HS.out.nextD hB1));
         (replace HS := Lib.hid HS2);
         (clear hB1 HS2);
         (obtain ⟨fp0, fp1, fp2, _⟩ := HS.out.box);
         (obtain ⟨fx0, fy0, _, _⟩ := fp0.cells);
         (obtain ⟨fx1, fy1, _, _⟩ := fp1.cells);
         (obtain ⟨fx2, fy2, _, _⟩ := fp2.cells))
    | (go_at_call 17;
         (first
           | (with_reducible refine Calls.mono (fFloor_v (c := q + y) _ (by first | exact HS.out.g | exact HS.out.drew.g | exact (HS.out.drewN _).g) HVA.out HMV.out) ?_));
         (rintro e WX ⟨rfl, hB1⟩);
         (have HS2 : StL w WX [(b3_0, (cS (q + 1)), ⟨#[]⟩), (b3, (cS q), ⟨#[]⟩), (w.heap.size, fn, fd)] := (by first | exact HS.out.next hB1 | exact HS.out.next1 hB1 | exact HS.out.nextD hB1));
         (replace HS := Lib.hid HS2);
         (clear hB1 HS2);
         (obtain ⟨fp0, fp1, fp2, _⟩ := HS.out.box);
         (obtain ⟨fx0, fy0, _, _⟩ := fp0.cells);
         (obtain ⟨fx1, fy1, _, _⟩ := fp1.cells);
         (obtain ⟨fx2, fy2, _, _⟩ := fp2.cells)))
    all_goals go_wp2_with fail
    all_goals go_meet
    all_goals exact ⟨rfl, (by first | exact HS.out | exact HS.out.drew | exact HS.out.drewN _)⟩
  clear HS
  clear fp0 fx0 fy0 fp1 fx1 fy1 fp2 fx2 fy2
  obtain ⟨rfl, hS⟩ := hcut
  obtain ⟨w5, hw⟩ : ∃ W, W = wc := ⟨_, rfl⟩
  rw [← hw] at hS
  rw [← hw]
  clear hw
  obtain ⟨fp0, fp1, fp2, _⟩ := hS.box
  obtain ⟨fx0, fy0, _, _⟩ := fp0.cells
  obtain ⟨fx1, fy1, _, _⟩ := fp1.cells
  obtain ⟨fx2, fy2, _, _⟩ := fp2.cells
  go_wp2_with fail
  clear fp0 fx0 fy0 fp1 fx1 fy1 fp2 fx2 fy2
  refine Calls.mono (check_v (z := q) _ HQ4.out) ?_
  rintro _ _ ⟨rfl, rfl⟩
  obtain ⟨fp0, fp1, fp2, _⟩ := hS.box
  obtain ⟨fx0, fy0, _, _⟩ := fp0.cells
  obtain ⟨fx1, fy1, _, _⟩ := fp1.cells
  obtain ⟨fx2, fy2, _, _⟩ := fp2.cells
  go_wp2_with fail
  clear fp0 fx0 fy0 fp1 fx1 fy1 fp2 fx2 fy2
  refine Calls.mono (fCompare_v (c := c1) _ hS.g HVQ.out (Hf.arg (by decide)) HC1.out.1) ?_
  rintro _ w6 ⟨rfl, hB⟩
  replace hS := hS.next hB
  clear hB
  obtain ⟨fp0, fp1, fp2, _⟩ := hS.box
  obtain ⟨fx0, fy0, _, _⟩ := fp0.cells
  obtain ⟨fx1, fy1, _, _⟩ := fp1.cells
  obtain ⟨fx2, fy2, _, _⟩ := fp2.cells
  go_wp2_with fail
  clear fp0 fx0 fy0 fp1 fx1 fy1 fp2 fx2 fy2
  refine Calls.mono (fCompare_v (c := c2) _ hS.g (Hf.arg (by decide)) HVH.out HC2.out.1) ?_
  rintro _ w7 ⟨rfl, hB⟩
  replace hS := hS.next hB
  clear hB
  obtain ⟨fp0, fp1, fp2, _⟩ := hS.box
  obtain ⟨fx0, fy0, _, _⟩ := fp0.cells
  obtain ⟨fx1, fy1, _, _⟩ := fp1.cells
  obtain ⟨fx2, fy2, _, _⟩ := fp2.cells
  go_wp2_with fail
  clear fp0 fx0 fy0 fp1 fx1 fy1 fp2 fx2 fy2
  refine Calls.mono (add_v (x := q) (y := y) (z := q + y) _ hS.g HQ4.out HA4.out (vS_cS q) HY.out rfl) ?_
  rintro _ w8 ⟨rfl, hB⟩
  replace hS := hS.next hB
  clear hB
  obtain ⟨fp0, fp1, fp2, _⟩ := hS.box
  obtain ⟨fx0, fy0, _, _⟩ := fp0.cells
  obtain ⟨fx1, fy1, _, _⟩ := fp1.cells
  obtain ⟨fx2, fy2, _, _⟩ := fp2.cells
  go_wp2_with fail
  clear fp0 fx0 fy0 fp1 fx1 fy1 fp2 fx2 fy2
  refine Calls.mono (fawake_any _ hS.g) ?_
  rintro _ w9 ⟨rfl, hB⟩
  replace hS := hS.next hB
  clear hB
  obtain ⟨fp0, fp1, fp2, _⟩ := hS.box
  obtain ⟨fx0, fy0, _, _⟩ := fp0.cells
  obtain ⟨fx1, fy1, _, _⟩ := fp1.cells
  obtain ⟨fx2, fy2, _, _⟩ := fp2.cells
  go_wp2_with fail
  go_ret
  exact ⟨rfl, hS.below⟩

set_option maxRecDepth 100000 in
set_option maxHeartbeats 16000000 in
theorem ffloor_long (fn fd a : ByteArray) (w : World) (hG : Ground w) (hl : flong 60 [(fn, fd), (a, ⟨#[]⟩)] = true) :
    Calls Tryd.prog 5 #[.agg #[.string fn, .string fd], .string a] w fun e w' => e = .returned (.bool true) ∧ Below w.heap.size w w' := by
  have HL := Lib.hid hl
  clear hl
  obtain ⟨W0, hW0⟩ : ∃ W0, W0 = w.alloc (.cells #[.string fn, .string fd] 24) := ⟨_, rfl⟩
  have hS : StL w W0 [(w.heap.size, fn, fd)] := by rw [hW0]; exact StL.one hG _ _
  go_enter Tryd.func5, Tryd.ntmps5
  go_upto_region 1 with fail
  rw [← hW0]
  clear hW0
  obtain ⟨fp0, _⟩ := hS.box
  obtain ⟨fx0, fy0, _, _⟩ := fp0.cells
  go_wp2_with fail
  obtain ⟨W1, hW1⟩ : ∃ W1, W1 = W0.alloc (.cells #[.string fn, .string fd, .string a, .string ⟨#[]⟩] 24) := ⟨_, rfl⟩
  have hc0 : ∀ i, i < 2 → W1.cell? ⟨W0.heap.size, i * 2, none⟩ = some (.string ([(fn, fd), (a, ⟨#[]⟩)].getD i (⟨#[]⟩, ⟨#[]⟩)).1) ∧ W1.cell? ⟨W0.heap.size, i * 2 + 1, none⟩ = some (.string ([(fn, fd), (a, ⟨#[]⟩)].getD i (⟨#[]⟩, ⟨#[]⟩)).2) := by rw [hW1]; exact fgreat_cells W0 [(fn, fd), (a, ⟨#[]⟩)]
  have hS1 : StL w W1 [(w.heap.size, fn, fd)] := by rw [hW1]; exact hS.other _
  rw [← hW1]
  clear fp0 fx0 fy0
  clear hW1 hS
  have hS := hS1
  clear hS1
  refine (rGreat_any W1 W0.heap.size 2 [(fn, fd), (a, ⟨#[]⟩)] rfl (by decide) hc0).mono ?_
  rintro _ _ ⟨rfl, rfl⟩
  clear hc0
  rw [HL.out]
  obtain ⟨fp0, _⟩ := hS.box
  obtain ⟨fx0, fy0, _, _⟩ := fp0.cells
  go_wp2_with fail
  clear fp0 fx0 fy0
  refine Calls.mono (fawake_any _ hS.g) ?_
  rintro _ w1 ⟨rfl, hB⟩
  replace hS := hS.next hB
  clear hB
  obtain ⟨fp0, _⟩ := hS.box
  obtain ⟨fx0, fy0, _, _⟩ := fp0.cells
  go_wp2_with fail
  go_ret
  exact ⟨rfl, hS.below⟩

theorem ffloor_any (fn fd a : ByteArray) (w : World) (hG : Ground w) :
    Calls Tryd.prog 5 #[.agg #[.string fn, .string fd], .string a] w fun e w' => e = .returned (.bool true) ∧ Below w.heap.size w w' := by
  by_cases h1 : fn.size ≤ 60 ∧ fd.size ≤ 60
  · by_cases h3 : a.size ≤ 60
    · exact ffloor_in fn fd a w hG h1.1 h1.2 h3
    · exact ffloor_long fn fd a w hG (flong_true (f := (a, ⟨#[]⟩)) (by simp) (by show 60 < a.size ∨ _; omega))
  · exact ffloor_long fn fd a w hG (flong_true (f := (fn, fd)) (by simp) (by show 60 < fn.size ∨ 60 < fd.size; omega))

end Go.Proofs.YtldohkfomdcpoaaDoor
