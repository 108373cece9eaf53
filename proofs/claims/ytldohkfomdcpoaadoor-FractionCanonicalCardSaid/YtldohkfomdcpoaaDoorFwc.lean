/- The program's layer 2: add, subtract, multiply, divide: the walks. -/
import Derived.Test.YtldohkfomdcpoaaDoorFwb
import Derived.Deep.RegionHeld3
namespace Go.Proofs.YtldohkfomdcpoaaDoor
open Go.RowKit Fra

/-- two boxes, and the variable of a result, behind some calls -/
structure St2 (w W : World) (s t : TypeId) (a b c d : ByteArray) : Prop where
  g : Ground W
  x : PairAt W w.heap.size s a b
  y : PairAt W (w.heap.size + 1) s c d
  r : PairAt W (w.heap.size + 1 + 1) t ⟨#[]⟩ ⟨#[]⟩
  below : Below w.heap.size w W
theorem St2.next {w W W1 : World} {s t : TypeId} {a b c d : ByteArray} (h : St2 w W s t a b c d) (hb : Below W.heap.size W W1) : St2 w W1 s t a b c d :=
  ⟨h.g.below hb, h.x.below hb, h.y.below hb, h.r.below hb, h.below.trans (hb.mono h.below.size)⟩
theorem St2.drewN {w W : World} {s t : TypeId} {a b c d : ByteArray} (h : St2 w W s t a b c d) (q : Nat) : St2 w (W.drewN q) s t a b c d :=
  ⟨⟨h.g.tab, h.g.max⟩, h.x, h.y, h.r, below_drewN h.below q⟩
theorem St2.drew {w W : World} {s t : TypeId} {a b c d : ByteArray} (h : St2 w W s t a b c d) : St2 w W.drew s t a b c d := h.drewN 1
theorem St2.next1 {w W W1 : World} {s t : TypeId} {a b c d : ByteArray} (h : St2 w W s t a b c d) (hb : Below W.drew.heap.size W.drew W1) : St2 w W1 s t a b c d := h.drew.next hb
theorem St2.nextD {w W W1 : World} {s t : TypeId} {a b c d : ByteArray} {q : Nat} (h : St2 w W s t a b c d) (hb : Below (W.drewN q).heap.size (W.drewN q) W1) : St2 w W1 s t a b c d := (h.drewN q).next hb
theorem St2.made {w : World} (hG : Ground w) (s t : TypeId) (a b c d : ByteArray) :
    St2 w (((w.alloc (.cells #[.string a, .string b] s)).alloc (.cells #[.string c, .string d] s)).alloc (.cells #[.string ⟨#[]⟩, .string ⟨#[]⟩] t)) s t a b c d := by
  have hB : Below w.heap.size w (((w.alloc (.cells #[.string a, .string b] s)).alloc (.cells #[.string c, .string d] s)).alloc (.cells #[.string ⟨#[]⟩, .string ⟨#[]⟩] t)) := (((Below.refl _ _).alloc (Nat.le_refl _) _).alloc (by simp) _).alloc (by simp; omega) _
  refine ⟨hG.below hB, ((PairAt.made w s a b).alloc _).alloc _, ?_, ?_, hB⟩
  · have := (PairAt.made (w.alloc (.cells #[.string a, .string b] s)) s c d).alloc (.cells #[.string ⟨#[]⟩, .string ⟨#[]⟩] t)
    simpa using this
  · have := PairAt.made ((w.alloc (.cells #[.string a, .string b] s)).alloc (.cells #[.string c, .string d] s)) t ⟨#[]⟩ ⟨#[]⟩
    simpa using this
theorem St2.cells {w W : World} {s t : TypeId} {a b c d : ByteArray} (h : St2 w W s t a b c d) :
    W.cell? ⟨w.heap.size, 0, none⟩ = some (.string a) ∧ W.cell? ⟨w.heap.size, 1, none⟩ = some (.string b) ∧ W.cell? ⟨w.heap.size + 1, 0, none⟩ = some (.string c) ∧ W.cell? ⟨w.heap.size + 1, 1, none⟩ = some (.string d) ∧
    W.cell? ⟨w.heap.size + 1 + 1, 0, none⟩ = some (.string ⟨#[]⟩) ∧ W.cell? ⟨w.heap.size + 1 + 1, 1, none⟩ = some (.string ⟨#[]⟩) ∧ W.frozen? ⟨w.heap.size + 1 + 1, 0, none⟩ = false ∧ W.frozen? ⟨w.heap.size + 1 + 1, 1, none⟩ = false := by
  obtain ⟨x0, x1, _, _⟩ := h.x.cells
  obtain ⟨y0, y1, _, _⟩ := h.y.cells
  obtain ⟨r0, r1, r2, r3⟩ := h.r.cells
  exact ⟨x0, x1, y0, y1, r0, r1, r2, r3⟩

theorem mul_size {a b : ByteArray} {x y : Int} (hx : vS a = x) (hy : vS b = y) : (cS (x * y)).size ≤ a.size + b.size + 1 :=
  cS_size (Cap.mul (Cap.of (Nat.le_refl a.size) hx) (Cap.of (Nat.le_refl b.size) hy))

set_option maxRecDepth 100000 in
set_option maxHeartbeats 4000000 in
theorem rMulRatio_v {a b c d : ByteArray} {x1 x2 y1 y2 : Int} (w : World) (hG : Ground w) (ha : a.size ≤ 1000000000) (hb : b.size ≤ 1000000000) (hc : c.size ≤ 1000000000) (hd : d.size ≤ 1000000000)
    (h1 : vS a = x1) (h2 : vS b = x2) (h3 : vS c = y1) (h4 : vS d = y2) :
    Calls Tryd.prog 52 #[.agg #[.string a, .string b], .agg #[.string c, .string d]] w fun e w' => e = .returned (.agg #[.string (cS (x1 * y1)), .string (cS (x2 * y2))]) ∧ Below w.heap.size w w' := by
  obtain ⟨W0, hW0⟩ : ∃ W0, W0 = ((w.alloc (.cells #[.string a, .string b] 54)).alloc (.cells #[.string c, .string d] 54)).alloc (.cells #[.string ⟨#[]⟩, .string ⟨#[]⟩] 54) := ⟨_, rfl⟩
  have hS : St2 w W0 54 54 a b c d := by rw [hW0]; exact St2.made hG _ _ _ _ _ _
  obtain ⟨c0, c1, c2, c3, c4, c5, c6, c7⟩ := hS.cells
  have hn1 : w.heap.size + 1 + 1 ≠ w.heap.size := by omega
  have HS := Lib.hid hS
  have H1 := Lib.hid h1
  have H2 := Lib.hid h2
  have H3 := Lib.hid h3
  have H4 := Lib.hid h4
  clear h1 h2 h3 h4 hS hG
  go_enter Tryd.func52, Tryd.ntmps52
  go_wp2_with fail
  rw [← hW0]
  clear hW0
  go_region_held3 (fun w' => w'.cell? ⟨w.heap.size, 0, none⟩ = some (.string a) ∧ w'.cell? ⟨w.heap.size, 1, none⟩ = some (.string b) ∧ w'.cell? ⟨w.heap.size + 1, 0, none⟩ = some (.string c) ∧ w'.cell? ⟨w.heap.size + 1, 1, none⟩ = some (.string d))
    (go_keep)
    (first
    | (go_at_call 68;
         (first
           | (with_reducible refine Calls.mono (mul_v (a := a) (b := c) (x := x1) (y := y1) (z := x1 * y1) _ (by first | exact HS.out.g | exact HS.out.drew.g | exact (HS.out.drewN _).g) (by omega) (by omega) H1.out H3.out rfl) ?_)
           | (with_reducible refine Calls.mono (mul_v (a := b) (b := d) (x := x2) (y := y2) (z := x2 * y2) _ (by first | exact HS.out.g | exact HS.out.drew.g | exact (HS.out.drewN _).g) (by omega) (by omega) H2.out H4.out rfl) ?_));
         (rintro e W1 ⟨rfl, hB1⟩);
         (have HS2 : St2 w W1 _ _ a b c d := (by first | exact HS.out.next hB1 | exact HS.out.next1 hB1 | exact HS.out.nextD hB1));
         (replace HS := Lib.hid HS2);
         (clear hB1 HS2);
         (obtain ⟨c0, c1, c2, c3, c4, c5, c6, c7⟩ := HS.out.cells)))
  all_goals go_wp2_with fail
  all_goals obtain ⟨k0, k1, _, _⟩ := (HS.out.r.put (cS (x1 * y1)) (cS (x2 * y2))).cells
  all_goals exact bodyPost_ret (v := .agg #[.string (cS (x1 * y1)), .string (cS (x2 * y2))]) (by simp [results, Tryd.results52, go_sem, k0, k1]) rfl ⟨rfl, below_put HS.out.below (by omega) _ _⟩

set_option maxRecDepth 100000 in
set_option maxHeartbeats 4000000 in
theorem rAddRatio_v {a b c d : ByteArray} {x1 x2 y1 y2 : Int} (w : World) (hG : Ground w) (ha : a.size ≤ 1000000000) (hb : b.size ≤ 1000000000) (hc : c.size ≤ 1000000000) (hd : d.size ≤ 1000000000)
    (h1 : vS a = x1) (h2 : vS b = x2) (h3 : vS c = y1) (h4 : vS d = y2) :
    Calls Tryd.prog 50 #[.agg #[.string a, .string b], .agg #[.string c, .string d]] w fun e w' => e = .returned (.agg #[.string (cS (x1 * y2 + y1 * x2)), .string (cS (x2 * y2))]) ∧ Below w.heap.size w w' := by
  obtain ⟨W0, hW0⟩ : ∃ W0, W0 = ((w.alloc (.cells #[.string a, .string b] 54)).alloc (.cells #[.string c, .string d] 54)).alloc (.cells #[.string ⟨#[]⟩, .string ⟨#[]⟩] 54) := ⟨_, rfl⟩
  have hS : St2 w W0 54 54 a b c d := by rw [hW0]; exact St2.made hG _ _ _ _ _ _
  obtain ⟨c0, c1, c2, c3, c4, c5, c6, c7⟩ := hS.cells
  have hn1 : w.heap.size + 1 + 1 ≠ w.heap.size := by omega
  have HU := Lib.hid (show (cS (x1 * y2)).size ≤ 4294967295 by have := mul_size h1 h4; omega)
  have HV := Lib.hid (show (cS (y1 * x2)).size ≤ 4294967295 by have := mul_size h3 h2; omega)
  have HS := Lib.hid hS
  have H1 := Lib.hid h1
  have H2 := Lib.hid h2
  have H3 := Lib.hid h3
  have H4 := Lib.hid h4
  clear h1 h2 h3 h4 hS hG
  go_enter Tryd.func50, Tryd.ntmps50
  go_wp2_with fail
  rw [← hW0]
  clear hW0
  go_region_held3 (fun w' => w'.cell? ⟨w.heap.size, 0, none⟩ = some (.string a) ∧ w'.cell? ⟨w.heap.size, 1, none⟩ = some (.string b) ∧ w'.cell? ⟨w.heap.size + 1, 0, none⟩ = some (.string c) ∧ w'.cell? ⟨w.heap.size + 1, 1, none⟩ = some (.string d))
    (go_keep)
    (first
    | (go_at_call 68;
         (first
           | (with_reducible refine Calls.mono (mul_v (a := a) (b := d) (x := x1) (y := y2) (z := x1 * y2) _ (by first | exact HS.out.g | exact HS.out.drew.g | exact (HS.out.drewN _).g) (by omega) (by omega) H1.out H4.out rfl) ?_)
           | (with_reducible refine Calls.mono (mul_v (a := c) (b := b) (x := y1) (y := x2) (z := y1 * x2) _ (by first | exact HS.out.g | exact HS.out.drew.g | exact (HS.out.drewN _).g) (by omega) (by omega) H3.out H2.out rfl) ?_)
           | (with_reducible refine Calls.mono (mul_v (a := b) (b := d) (x := x2) (y := y2) (z := x2 * y2) _ (by first | exact HS.out.g | exact HS.out.drew.g | exact (HS.out.drewN _).g) (by omega) (by omega) H2.out H4.out rfl) ?_));
         (rintro e W1 ⟨rfl, hB1⟩);
         (have HS2 : St2 w W1 _ _ a b c d := (by first | exact HS.out.next hB1 | exact HS.out.next1 hB1 | exact HS.out.nextD hB1));
         (replace HS := Lib.hid HS2);
         (clear hB1 HS2);
         (obtain ⟨c0, c1, c2, c3, c4, c5, c6, c7⟩ := HS.out.cells))
    | (go_at_call 20;
         (first
           | (with_reducible refine Calls.mono (add_v (a := cS (x1 * y2)) (b := cS (y1 * x2)) (x := x1 * y2) (y := y1 * x2) (z := x1 * y2 + y1 * x2) _ (by first | exact HS.out.g | exact HS.out.drew.g | exact (HS.out.drewN _).g) HU.out HV.out (vS_cS _) (vS_cS _) rfl) ?_));
         (rintro e W1 ⟨rfl, hB1⟩);
         (have HS2 : St2 w W1 _ _ a b c d := (by first | exact HS.out.next hB1 | exact HS.out.next1 hB1 | exact HS.out.nextD hB1));
         (replace HS := Lib.hid HS2);
         (clear hB1 HS2);
         (obtain ⟨c0, c1, c2, c3, c4, c5, c6, c7⟩ := HS.out.cells)))
  all_goals go_wp2_with fail
  all_goals obtain ⟨k0, k1, _, _⟩ := (HS.out.r.put (cS (x1 * y2 + y1 * x2)) (cS (x2 * y2))).cells
  all_goals exact bodyPost_ret (v := .agg #[.string (cS (x1 * y2 + y1 * x2)), .string (cS (x2 * y2))]) (by simp [results, Tryd.results50, go_sem, k0, k1]) rfl ⟨rfl, below_put HS.out.below (by omega) _ _⟩

set_option maxRecDepth 100000 in
set_option maxHeartbeats 4000000 in
theorem rSubRatio_v {a b c d : ByteArray} {x1 x2 y1 y2 : Int} (w : World) (hG : Ground w) (ha : a.size ≤ 1000000000) (hb : b.size ≤ 1000000000) (hc : c.size + 1 ≤ 1000000000) (hd : d.size ≤ 1000000000)
    (h1 : vS a = x1) (h2 : vS b = x2) (h3 : vS c = y1) (h4 : vS d = y2) :
    Calls Tryd.prog 51 #[.agg #[.string a, .string b], .agg #[.string c, .string d]] w fun e w' => e = .returned (.agg #[.string (cS (x1 * y2 + -y1 * x2)), .string (cS (x2 * y2))]) ∧ Below w.heap.size w w' := by
  obtain ⟨W0, hW0⟩ : ∃ W0, W0 = ((w.alloc (.cells #[.string a, .string b] 54)).alloc (.cells #[.string c, .string d] 54)).alloc (.cells #[.string ⟨#[]⟩, .string ⟨#[]⟩] 54) := ⟨_, rfl⟩
  have hS : St2 w W0 54 54 a b c d := by rw [hW0]; exact St2.made hG _ _ _ _ _ _
  obtain ⟨c0, c1, c2, c3, c4, c5, c6, c7⟩ := hS.cells
  have hn1 : w.heap.size + 1 + 1 ≠ w.heap.size := by omega
  have HN := Lib.hid (show (cS (-y1)).size ≤ 1000000000 from by have := cS_size (z := -y1) (k := c.size) (by rw [Int.natAbs_neg, ← h3]; exact vS_lt c); omega)
  have HS := Lib.hid hS
  have H1 := Lib.hid h1
  have H2 := Lib.hid h2
  have H3 := Lib.hid h3
  have H4 := Lib.hid h4
  clear h1 h2 h3 h4 hS hG
  go_enter Tryd.func51, Tryd.ntmps51
  go_wp2_with fail
  rw [← hW0]
  clear hW0
  go_region_held3 (fun w' => w'.cell? ⟨w.heap.size, 0, none⟩ = some (.string a) ∧ w'.cell? ⟨w.heap.size, 1, none⟩ = some (.string b) ∧ w'.cell? ⟨w.heap.size + 1, 0, none⟩ = some (.string c) ∧ w'.cell? ⟨w.heap.size + 1, 1, none⟩ = some (.string d))
    (go_keep)
    (first
    | (go_at_call 71;
         (first
           | (with_reducible refine Calls.mono (neg_v (a := c) (x := y1) (z := -y1) _ (by omega) H3.out rfl) ?_));
         (rintro e _ ⟨rfl, rfl⟩);
         skip)
    | (go_at_call 50;
         (first
           | (with_reducible refine Calls.mono (rAddRatio_v (a := a) (b := b) (c := cS (-y1)) (d := d) (x1 := x1) (x2 := x2) (y1 := -y1) (y2 := y2) _ (by first | exact HS.out.g | exact HS.out.drew.g | exact (HS.out.drewN _).g) ha hb HN.out hd H1.out H2.out (vS_cS _) H4.out) ?_));
         (rintro e W1 ⟨rfl, hB1⟩);
         (have HS2 : St2 w W1 _ _ a b c d := (by first | exact HS.out.next hB1 | exact HS.out.next1 hB1 | exact HS.out.nextD hB1));
         (replace HS := Lib.hid HS2);
         (clear hB1 HS2);
         (obtain ⟨c0, c1, c2, c3, c4, c5, c6, c7⟩ := HS.out.cells)))
  all_goals go_wp2_with fail
  all_goals obtain ⟨k0, k1, _, _⟩ := (HS.out.r.put (cS (x1 * y2 + -y1 * x2)) (cS (x2 * y2))).cells
  all_goals exact bodyPost_ret (v := .agg #[.string (cS (x1 * y2 + -y1 * x2)), .string (cS (x2 * y2))]) (by simp [results, Tryd.results51, go_sem, k0, k1]) rfl ⟨rfl, below_put HS.out.below (by omega) _ _⟩

set_option maxRecDepth 100000 in
set_option maxHeartbeats 4000000 in
theorem rDivRatio_v {a b c d : ByteArray} {x1 x2 y1 y2 : Int} (w : World) (hG : Ground w) (ha : a.size ≤ 1000000000) (hb : b.size ≤ 1000000000) (hc : c.size + 1 ≤ 1000000000) (hd : d.size + 1 ≤ 1000000000)
    (h1 : vS a = x1) (h2 : vS b = x2) (h3 : vS c = y1) (h4 : vS d = y2) (h0 : y1 ≠ 0) :
    Calls Tryd.prog 53 #[.agg #[.string a, .string b], .agg #[.string c, .string d]] w fun e w' => e = .returned (.agg #[.string (cS (x1 * (rawP y2 y1).1)), .string (cS (x2 * (rawP y2 y1).2))]) ∧ Below w.heap.size w w' := by
  obtain ⟨W0, hW0⟩ : ∃ W0, W0 = ((w.alloc (.cells #[.string a, .string b] 54)).alloc (.cells #[.string c, .string d] 54)).alloc (.cells #[.string ⟨#[]⟩, .string ⟨#[]⟩] 54) := ⟨_, rfl⟩
  have hS : St2 w W0 54 54 a b c d := by rw [hW0]; exact St2.made hG _ _ _ _ _ _
  obtain ⟨c0, c1, c2, c3, c4, c5, c6, c7⟩ := hS.cells
  have hn1 : w.heap.size + 1 + 1 ≠ w.heap.size := by omega
  have HZ := Lib.hid (show vS c ≠ 0 by rw [h3]; exact h0)
  have HS := Lib.hid hS
  have H1 := Lib.hid h1
  have H2 := Lib.hid h2
  have H3 := Lib.hid h3
  have H4 := Lib.hid h4
  clear h1 h2 h3 h4 hS hG
  go_enter Tryd.func53, Tryd.ntmps53
  go_wp2_with fail
  rw [← hW0]
  clear hW0
  go_region_held3 (fun w' => w'.cell? ⟨w.heap.size, 0, none⟩ = some (.string a) ∧ w'.cell? ⟨w.heap.size, 1, none⟩ = some (.string b) ∧ w'.cell? ⟨w.heap.size + 1, 0, none⟩ = some (.string c) ∧ w'.cell? ⟨w.heap.size + 1, 1, none⟩ = some (.string d))
    (go_keep)
    (first
    | (go_at_call 54;
         (first
           | (with_reducible refine Calls.mono (fQuotient_any d c _ 1000000000 hd hc (by decide) HZ.out) ?_));
         (rintro e W1 ⟨p, q, rfl, e1, e2, e3, e4, hB1⟩);
         (have HP := Lib.hid (show vS p = (rawP y2 y1).1 by rw [e1, H3.out, H4.out]));
         (have HQ := Lib.hid (show vS q = (rawP y2 y1).2 by rw [e2, H3.out, H4.out]));
         (have HS2 : St2 w W1 _ _ a b c d := (by first | exact HS.out.next hB1 | exact HS.out.next1 hB1 | exact HS.out.nextD hB1));
         (replace HS := Lib.hid HS2);
         (clear hB1 HS2 e1 e2);
         (obtain ⟨c0, c1, c2, c3, c4, c5, c6, c7⟩ := HS.out.cells))
    | (go_at_call 52;
         (first
           | (with_reducible refine Calls.mono (rMulRatio_v (a := a) (b := b) (c := p) (d := q) (x1 := x1) (x2 := x2) _ (by first | exact HS.out.g | exact HS.out.drew.g | exact (HS.out.drewN _).g) ha hb e3 e4 H1.out H2.out HP.out HQ.out) ?_));
         (rintro e W1 ⟨rfl, hB1⟩);
         (have HS2 : St2 w W1 _ _ a b c d := (by first | exact HS.out.next hB1 | exact HS.out.next1 hB1 | exact HS.out.nextD hB1));
         (replace HS := Lib.hid HS2);
         (clear hB1 HS2);
         (obtain ⟨c0, c1, c2, c3, c4, c5, c6, c7⟩ := HS.out.cells)))
  all_goals go_wp2_with fail
  all_goals obtain ⟨k0, k1, _, _⟩ := (HS.out.r.put (cS (x1 * (rawP y2 y1).1)) (cS (x2 * (rawP y2 y1).2))).cells
  all_goals exact bodyPost_ret (v := .agg #[.string (cS (x1 * (rawP y2 y1).1)), .string (cS (x2 * (rawP y2 y1).2))]) (by simp [results, Tryd.results53, go_sem, k0, k1]) rfl ⟨rfl, below_put HS.out.below (by omega) _ _⟩

end Go.Proofs.YtldohkfomdcpoaaDoor
