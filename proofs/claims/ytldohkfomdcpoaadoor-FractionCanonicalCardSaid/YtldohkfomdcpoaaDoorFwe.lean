/- The program's layer 2: apply at integers, Add, Sub, Mul, Neg, Of, New, Quo: the walks. -/
import Derived.Test.YtldohkfomdcpoaaDoorFwd
namespace Go.Proofs.YtldohkfomdcpoaaDoor
open Go.RowKit Fra

/-- the variable of a result and the table of operations, behind some calls -/
structure StI (w W : World) (N : Nat) : Prop where
  g : Ground W
  r : PairAt W w.heap.size 54 ⟨#[]⟩ ⟨#[]⟩
  tab : FunsAt W N (.func (.func 50) #[] #[]) (.func (.func 51) #[] #[]) (.func (.func 52) #[] #[]) (.func (.func 53) #[] #[])
  below : Below w.heap.size w W
theorem StI.next {w W W1 : World} {N : Nat} (h : StI w W N) (hb : Below W.heap.size W W1) : StI w W1 N := ⟨h.g.below hb, h.r.below hb, h.tab.below hb, h.below.trans (hb.mono h.below.size)⟩
theorem StI.drewN {w W : World} {N : Nat} (h : StI w W N) (q : Nat) : StI w (W.drewN q) N := ⟨⟨h.g.tab, h.g.max⟩, h.r, h.tab, below_drewN h.below q⟩
theorem StI.drew {w W : World} {N : Nat} (h : StI w W N) : StI w W.drew N := h.drewN 1
theorem StI.next1 {w W W1 : World} {N : Nat} (h : StI w W N) (hb : Below W.drew.heap.size W.drew W1) : StI w W1 N := h.drew.next hb
theorem StI.nextD {w W W1 : World} {N q : Nat} (h : StI w W N) (hb : Below (W.drewN q).heap.size (W.drewN q) W1) : StI w W1 N := (h.drewN q).next hb

set_option maxRecDepth 100000 in
set_option maxHeartbeats 4000000 in
theorem fApplyInt_any (n d : ByteArray) (w : World) (hG : Ground w) (hn : n.size ≤ 100000) (hd : d.size ≤ 100000) (h0 : vS d ≠ 0) :
    Calls Tryd.prog 42 #[.int .i64 3, .func (.func 35) #[] #[], .string n, .string d] w fun e w' => e = .returned (.agg #[.string (cS (vS n * (rawP 1 (vS d)).1)), .string (cS (rawP 1 (vS d)).2)]) ∧ Below w.heap.size w w' := by
  obtain ⟨W0, hW0⟩ : ∃ W0, W0 = w.alloc (.cells #[.string ⟨#[]⟩, .string ⟨#[]⟩] 54) := ⟨_, rfl⟩
  have hB0 : Below w.heap.size w W0 := by rw [hW0]; exact (Below.refl _ _).alloc (Nat.le_refl _) _
  have hP : PairAt W0 w.heap.size 54 ⟨#[]⟩ ⟨#[]⟩ := by rw [hW0]; exact PairAt.made _ _ _ _
  go_enter Tryd.func42, Tryd.ntmps42
  go_upto_region 1 with fail
  rw [← hW0]
  have hn2 : w.heap.size ≠ W0.heap.size := by rw [hW0]; simp
  clear hW0
  go_upto_region 2 with fail
  obtain ⟨N, hN⟩ : ∃ N, N = W0.heap.size := ⟨_, rfl⟩
  obtain ⟨WW, hWW⟩ : ∃ WW, WW = W0.alloc (.cells #[.func (.func 50) #[] #[], .func (.func 51) #[] #[], .func (.func 52) #[] #[], .func (.func 53) #[] #[]] 83) := ⟨_, rfl⟩
  have hBW : Below W0.heap.size W0 WW := by rw [hWW]; exact (Below.refl _ _).alloc (Nat.le_refl _) _
  have hS : StI w WW N := ⟨hG.below (hB0.trans (hBW.mono hB0.size)), hP.below hBW, by rw [hWW, hN]; exact FunsAt.made _ _ _ _ _, hB0.trans (hBW.mono hB0.size)⟩
  rw [← hN] at hn2
  rw [← hN, ← hWW]
  clear hN hWW hBW hB0 hP
  obtain ⟨_, _, _, g3, _, _, _, _⟩ := hS.tab.cells
  obtain ⟨r0, r1, r2, r3⟩ := hS.r.cells
  have HS := Lib.hid hS
  have H0 := Lib.hid h0
  clear hS hG h0
  go_region_held3 (fun w' => w'.cell? ⟨N, 3, none⟩ = some (.func (.func 53) #[] #[]))
    (go_keep)
    (first
    | (go_at_call 35;
         (with_reducible refine Calls.mono (fWhole_any _ _) ?_);
         (rintro e W1 ⟨rfl, hB1⟩);
         (have HS2 : StI w W1 N := (by first | exact HS.out.next hB1 | exact HS.out.next1 hB1 | exact HS.out.nextD hB1));
         (replace HS := Lib.hid HS2);
         (clear hB1 HS2);
         (obtain ⟨_, _, _, g3, _, _, _, _⟩ := HS.out.tab.cells);
         (obtain ⟨r0, r1, r2, r3⟩ := HS.out.r.cells))
    | (go_at_call 53;
         (with_reducible refine Calls.mono (rDivRatio_v (a := n) (b := ⟨#[49]⟩) (c := d) (d := ⟨#[49]⟩) (x1 := vS n) (x2 := 1) (y1 := vS d) (y2 := 1) _ (by first | exact HS.out.g | exact HS.out.drew.g | exact (HS.out.drewN _).g) (by omega) (by decide) (by omega) (by decide) rfl vS_one rfl vS_one H0.out) ?_);
         (rintro e W1 ⟨rfl, hB1⟩);
         (have HS2 : StI w W1 N := (by first | exact HS.out.next hB1 | exact HS.out.next1 hB1 | exact HS.out.nextD hB1));
         (replace HS := Lib.hid HS2);
         (clear hB1 HS2);
         (obtain ⟨_, _, _, g3, _, _, _, _⟩ := HS.out.tab.cells);
         (obtain ⟨r0, r1, r2, r3⟩ := HS.out.r.cells)))
  all_goals go_wp2_with fail
  all_goals obtain ⟨k0, k1, _, _⟩ := (HS.out.r.put (cS (vS n * (rawP 1 (vS d)).1)) (cS (rawP 1 (vS d)).2)).cells
  all_goals exact bodyPost_ret (v := .agg #[.string (cS (vS n * (rawP 1 (vS d)).1)), .string (cS (rawP 1 (vS d)).2)]) (by simp [results, Tryd.results42, go_sem, k0, k1]) rfl ⟨rfl, below_put HS.out.below (Nat.le_refl _) _ _⟩

theorem size_of {k : Nat} {z : Int} (h : Cap k z) (hk : k ≤ 4294967293) : (cS z).size ≤ 4294967294 := by have := cS_size h; omega

set_option maxRecDepth 100000 in
set_option maxHeartbeats 2000000 in
theorem fAdd_any (n d m e : ByteArray) (w : World) (hG : Ground w) (ha : n.size ≤ 100000) (hb : d.size ≤ 100000) (hc : m.size ≤ 100000) (hd : e.size ≤ 100000) :
    Calls Tryd.prog 11 #[.agg #[.string n, .string d], .agg #[.string m, .string e]] w (FPost w (addP (raw n d) (raw m e))) := by
  have cx := CapP.of_raw (k := 100000) (by decide) ha hb
  have cy := CapP.of_raw (k := 100000) (by decide) hc hd
  have HU := Lib.hid (show (cS ((raw n d).1 * (raw m e).2 + (raw m e).1 * (raw n d).2)).size ≤ 4294967294 from size_of (Cap.add (Cap.mul cx.1 cy.2) (Cap.mul cy.1 cx.2)) (by decide))
  have HV := Lib.hid (show (cS ((raw n d).2 * (raw m e).2)).size ≤ 4294967294 from size_of (Cap.mul cx.2 cy.2) (by decide))
  have HP := Lib.hid (Int.mul_pos (raw_pos n d) (raw_pos m e))
  clear cx cy
  obtain ⟨W0, hW0⟩ : ∃ W0, W0 = ((w.alloc (.cells #[.string n, .string d] 24)).alloc (.cells #[.string m, .string e] 24)).alloc (.cells #[.string ⟨#[]⟩, .string ⟨#[]⟩] 24) := ⟨_, rfl⟩
  have hS : St2 w W0 24 24 n d m e := by rw [hW0]; exact St2.made hG _ _ _ _ _ _
  obtain ⟨c0, c1, c2, c3, _, _, _, _⟩ := hS.cells
  go_enter Tryd.func11, Tryd.ntmps11
  go_wp2_with fail
  rw [← hW0]
  clear hW0
  refine (fApplyAdd_any n d m e W0 hS.g ha hb hc hd).mono ?_
  rintro _ w1 ⟨rfl, hB1⟩
  have hS1 := hS.next hB1
  clear hB1 c0 c1 c2 c3 hS
  go_wp2_with fail
  refine (show Calls _ _ _ w1 (FPost w1 (addP (raw n d) (raw m e))) from fCanonical_v w1 hS1.g HU.out HV.out (vS_cS _) (vS_cS _) HP.out).mono ?_
  rintro _ w2 ⟨rfl, hB2⟩
  have hS2 := hS1.next hB2
  clear hB2 hS1
  obtain ⟨_, _, _, _, c4, c5, c6, c7⟩ := hS2.cells
  go_wp2_with fail
  obtain ⟨k0, k1, _, _⟩ := (hS2.r.put (cS (addP (raw n d) (raw m e)).1) (cD (addP (raw n d) (raw m e)).2)).cells
  exact bodyPost_ret (v := .agg #[.string (cS (addP (raw n d) (raw m e)).1), .string (cD (addP (raw n d) (raw m e)).2)]) (by simp [results, Tryd.results11, go_sem, k0, k1]) rfl ⟨rfl, below_put hS2.below (by omega) _ _⟩

set_option maxRecDepth 100000 in
set_option maxHeartbeats 2000000 in
theorem fSub_any (n d m e : ByteArray) (w : World) (hG : Ground w) (ha : n.size ≤ 100000) (hb : d.size ≤ 100000) (hc : m.size ≤ 100000) (hd : e.size ≤ 100000) :
    Calls Tryd.prog 13 #[.agg #[.string n, .string d], .agg #[.string m, .string e]] w (FPost w (subP (raw n d) (raw m e))) := by
  have cx := CapP.of_raw (k := 100000) (by decide) ha hb
  have cy := CapP.of_raw (k := 100000) (by decide) hc hd
  have HU := Lib.hid (show (cS ((raw n d).1 * (raw m e).2 + -(raw m e).1 * (raw n d).2)).size ≤ 4294967294 from size_of (Cap.add (Cap.mul cx.1 cy.2) (Cap.mul cy.1.neg cx.2)) (by decide))
  have HV := Lib.hid (show (cS ((raw n d).2 * (raw m e).2)).size ≤ 4294967294 from size_of (Cap.mul cx.2 cy.2) (by decide))
  have HP := Lib.hid (Int.mul_pos (raw_pos n d) (raw_pos m e))
  clear cx cy
  obtain ⟨W0, hW0⟩ : ∃ W0, W0 = ((w.alloc (.cells #[.string n, .string d] 24)).alloc (.cells #[.string m, .string e] 24)).alloc (.cells #[.string ⟨#[]⟩, .string ⟨#[]⟩] 24) := ⟨_, rfl⟩
  have hS : St2 w W0 24 24 n d m e := by rw [hW0]; exact St2.made hG _ _ _ _ _ _
  obtain ⟨c0, c1, c2, c3, _, _, _, _⟩ := hS.cells
  go_enter Tryd.func13, Tryd.ntmps13
  go_wp2_with fail
  rw [← hW0]
  clear hW0
  refine (fApplySub_any n d m e W0 hS.g ha hb hc hd).mono ?_
  rintro _ w1 ⟨rfl, hB1⟩
  have hS1 := hS.next hB1
  clear hB1 c0 c1 c2 c3 hS
  go_wp2_with fail
  refine (show Calls _ _ _ w1 (FPost w1 (subP (raw n d) (raw m e))) from fCanonical_v w1 hS1.g HU.out HV.out (vS_cS _) (vS_cS _) HP.out).mono ?_
  rintro _ w2 ⟨rfl, hB2⟩
  have hS2 := hS1.next hB2
  clear hB2 hS1
  obtain ⟨_, _, _, _, c4, c5, c6, c7⟩ := hS2.cells
  go_wp2_with fail
  obtain ⟨k0, k1, _, _⟩ := (hS2.r.put (cS (subP (raw n d) (raw m e)).1) (cD (subP (raw n d) (raw m e)).2)).cells
  exact bodyPost_ret (v := .agg #[.string (cS (subP (raw n d) (raw m e)).1), .string (cD (subP (raw n d) (raw m e)).2)]) (by simp [results, Tryd.results13, go_sem, k0, k1]) rfl ⟨rfl, below_put hS2.below (by omega) _ _⟩

set_option maxRecDepth 100000 in
set_option maxHeartbeats 2000000 in
theorem fMul_any (n d m e : ByteArray) (w : World) (hG : Ground w) (ha : n.size ≤ 100000) (hb : d.size ≤ 100000) (hc : m.size ≤ 100000) (hd : e.size ≤ 100000) :
    Calls Tryd.prog 12 #[.agg #[.string n, .string d], .agg #[.string m, .string e]] w (FPost w (mulP (raw n d) (raw m e))) := by
  have cx := CapP.of_raw (k := 100000) (by decide) ha hb
  have cy := CapP.of_raw (k := 100000) (by decide) hc hd
  have HU := Lib.hid (show (cS ((raw n d).1 * (raw m e).1)).size ≤ 4294967294 from size_of (Cap.mul cx.1 cy.1) (by decide))
  have HV := Lib.hid (show (cS ((raw n d).2 * (raw m e).2)).size ≤ 4294967294 from size_of (Cap.mul cx.2 cy.2) (by decide))
  have HP := Lib.hid (Int.mul_pos (raw_pos n d) (raw_pos m e))
  clear cx cy
  obtain ⟨W0, hW0⟩ : ∃ W0, W0 = ((w.alloc (.cells #[.string n, .string d] 24)).alloc (.cells #[.string m, .string e] 24)).alloc (.cells #[.string ⟨#[]⟩, .string ⟨#[]⟩] 24) := ⟨_, rfl⟩
  have hS : St2 w W0 24 24 n d m e := by rw [hW0]; exact St2.made hG _ _ _ _ _ _
  obtain ⟨c0, c1, c2, c3, _, _, _, _⟩ := hS.cells
  go_enter Tryd.func12, Tryd.ntmps12
  go_wp2_with fail
  rw [← hW0]
  clear hW0
  refine (fApplyMul_any n d m e W0 hS.g ha hb hc hd).mono ?_
  rintro _ w1 ⟨rfl, hB1⟩
  have hS1 := hS.next hB1
  clear hB1 c0 c1 c2 c3 hS
  go_wp2_with fail
  refine (show Calls _ _ _ w1 (FPost w1 (mulP (raw n d) (raw m e))) from fCanonical_v w1 hS1.g HU.out HV.out (vS_cS _) (vS_cS _) HP.out).mono ?_
  rintro _ w2 ⟨rfl, hB2⟩
  have hS2 := hS1.next hB2
  clear hB2 hS1
  obtain ⟨_, _, _, _, c4, c5, c6, c7⟩ := hS2.cells
  go_wp2_with fail
  obtain ⟨k0, k1, _, _⟩ := (hS2.r.put (cS (mulP (raw n d) (raw m e)).1) (cD (mulP (raw n d) (raw m e)).2)).cells
  exact bodyPost_ret (v := .agg #[.string (cS (mulP (raw n d) (raw m e)).1), .string (cD (mulP (raw n d) (raw m e)).2)]) (by simp [results, Tryd.results12, go_sem, k0, k1]) rfl ⟨rfl, below_put hS2.below (by omega) _ _⟩

end Go.Proofs.YtldohkfomdcpoaaDoor
