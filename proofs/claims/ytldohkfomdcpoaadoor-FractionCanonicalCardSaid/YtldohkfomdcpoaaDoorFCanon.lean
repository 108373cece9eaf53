/- the law FractionCanonical: the walk. -/
import Derived.Test.YtldohkfomdcpoaaDoorFst
import Derived.Deep.DeepCutAuto
import Derived.Laws.NewBlocks
namespace Go.Proofs.YtldohkfomdcpoaaDoor
open Go.RowKit Fra

/-- from whatever memory: the function returns this, and nothing that was there has changed -/
def Rets (f : FuncId) (args : Array Value) (v : Value) : Prop := ∀ W, Ground W → Calls Tryd.prog f args W fun r w' => r = .returned v ∧ Below W.heap.size W w'
theorem Rets.call {f : FuncId} {args : Array Value} {v : Value} (h : Rets f args v) (W : World) (hG : Ground W) : Calls Tryd.prog f args W fun r w' => r = .returned v ∧ Below W.heap.size W w' := h W hG
/-- these strings are the canonical fraction p -/
def Item (u v : ByteArray) (p : Int × Int) : Prop := Low p ∧ u = cS p.1 ∧ v = cD p.2 ∧ CapP 200 p
theorem Item.of {p : Int × Int} (hc : CapP 200 p) (hl : Low p) : Item (cS p.1) (cD p.2) p := ⟨hl, rfl, rfl, hc⟩
theorem Item.val {u v : ByteArray} {p : Int × Int} (h : Item u v p) : Val u v p := by
  obtain ⟨hl, rfl, rfl, hc⟩ := h
  exact Val.of hc hl.1 (by decide)
theorem Item.s1 {u v : ByteArray} {p : Int × Int} (h : Item u v p) : (cS p.1).size ≤ 100000 := by have := cS_size h.2.2.2.1; omega
theorem Item.s2 {u v : ByteArray} {p : Int × Int} (h : Item u v p) : (cS p.2).size ≤ 100000 := by have := cS_size h.2.2.2.2; omega
theorem Item.t1 {u v : ByteArray} {p : Int × Int} (h : Item u v p) : (cS p.1).size ≤ 4294967295 := by have := h.s1; omega
theorem Item.t2 {u v : ByteArray} {p : Int × Int} (h : Item u v p) : (cS p.2).size ≤ 4294967295 := by have := h.s2; omega
theorem Item.u1 {u v : ByteArray} {p : Int × Int} (h : Item u v p) : u.size ≤ 4294967295 := by have := h.t1; rw [← h.2.1] at this; exact this
theorem Item.vu {u v : ByteArray} {p : Int × Int} (h : Item u v p) : vS u = p.1 := by rw [h.2.1, vS_cS]
theorem Item.ne {u v : ByteArray} {p : Int × Int} (h : Item u v p) : p.2 ≠ 0 := by have := h.1.1; omega
theorem Item.redS {u v : ByteArray} {p : Int × Int} (h : Item u v p) : redS p.1 p.2 = p := by rw [redS_red h.1.1]; exact h.1.eq
theorem Item.gcd {u v : ByteArray} {p : Int × Int} (h : Item u v p) : (Int.gcd p.1 p.2 : Int) = 1 := by rw [h.1.2]; rfl
theorem quo_item {n d m e : ByteArray} {x y : Int × Int} (h1 : Val n d x) (h2 : Val m e y) (c1 : CapP 60 x) (c2 : CapP 60 y) :
    ∃ u v k p, Item u v p ∧ Rets 15 #[.agg #[.string n, .string d], .agg #[.string m, .string e]] (.tuple #[.agg #[.string u, .string v], .int .i64 k]) := by
  by_cases h0 : y.1 = 0
  · exact ⟨⟨#[]⟩, ⟨#[]⟩, 10, (0, 1), ⟨⟨Int.one_pos, by simp⟩, cS_zero.symm, cD_one.symm, CapP.zero (by decide)⟩, fun W hG => fQuo_z W hG h2 h0⟩
  · have hne : x.2 * y.1 ≠ 0 := Int.mul_ne_zero (by have := h1.pos; omega) h0
    refine ⟨_, _, 0, quoP x y, Item.of (CapP.redS (Cap.mono (c1.1.mul c2.2) (by decide)) (Cap.mono (c1.2.mul c2.1) (by decide)) hne) (Low.of_redS hne), fun W hG => fQuo_v W hG h1 h2 h0 rfl⟩
theorem same_item {x y : Int × Int} (xp : 0 < x.2) (yp : 0 < y.2) : ∃ (c : Int) (r : Bool), (c == 0) = r ∧ cmpP x y = c ∧
    ∀ W : World, (binOp .eql 24 (.agg #[.string (cS (low x).1), .string (cD (low x).2)]) (.agg #[.string (cS (low y).1), .string (cD (low y).2)])).run Tryd.prog W = .ok (.bool r) W := by
  by_cases h : low x = low y
  · refine ⟨cmpP x y, true, ?_, rfl, fun W => by rw [h]; exact frac_same _ _ W⟩
    have : cmpP x y = 0 := by unfold cmpP; rw [cmp3_zero]; exact low_inv yp h
    rw [this]; rfl
  · refine ⟨cmpP x y, false, ?_, rfl, fun W => frac_eql_ne (fun e => h (can_inj (low_pos xp) (low_pos yp) e.1 e.2)) W⟩
    have : cmpP x y ≠ 0 := by unfold cmpP; intro e; exact h (low_eq xp yp ((cmp3_zero _ _).1 e))
    simpa using this
theorem check_item {n d : ByteArray} {x : Int × Int} (h : Val n d x) : ∃ (e : Int) (r : Bool), Rets 23 #[.agg #[.string n, .string d]] (.int .i64 e) ∧ (e == 0) = r ∧
    ∀ W : World, (binOp .eql 24 (.agg #[.string n, .string d]) (.agg #[.string (cS (low x).1), .string (cD (low x).2)])).run Tryd.prog W = .ok (.bool r) W := by
  by_cases hq : cS (low x).1 = n ∧ cD (low x).2 = d
  · exact ⟨0, true, fun W hG => fCheck_ok n d W hG (le_k h.2.1) (le_k h.2.2) (by rw [h.1]; exact hq), rfl, fun W => by rw [hq.1, hq.2]; exact frac_same _ _ W⟩
  · exact ⟨1, false, fun W hG => fCheck_bad n d W hG (le_k h.2.1) (le_k h.2.2) (by rw [h.1]; exact hq), rfl, fun W => frac_eql_ne (fun e => hq ⟨e.1.symm, e.2.symm⟩) W⟩
/-- a slice of fractions lies in block b -/
def RowAt (W : World) (b : Nat) (fs : List (ByteArray × ByteArray)) : Prop := W.heap[b]? = some (.cells (rowOf fs).toArray 24 (0, 0))
theorem RowAt.made (W : World) (fs : List (ByteArray × ByteArray)) : RowAt (W.alloc (.cells (rowOf fs).toArray 24)) W.heap.size fs := heap_alloc_new W _
theorem RowAt.drew {W : World} {b : Nat} {fs : List (ByteArray × ByteArray)} (h : RowAt W b fs) : RowAt W.drew b fs := h
theorem RowAt.below {W W' : World} {b : Nat} {fs : List (ByteArray × ByteArray)} (h : RowAt W b fs) (hb : Below W.heap.size W W') : RowAt W' b fs := by
  unfold RowAt at *
  have hl : b < W.heap.size := by
    rcases Nat.lt_or_ge b W.heap.size with h' | h'
    · exact h'
    · rw [Array.getElem?_eq_none h'] at h; simp at h
  rw [hb.block b hl]; exact h
theorem RowAt.cells {W : World} {b : Nat} {fs : List (ByteArray × ByteArray)} (h : RowAt W b fs) (i : Nat) (hi : i < fs.length) :
    W.cell? ⟨b, i * 2, none⟩ = some (.string (fs.getD i (⟨#[]⟩, ⟨#[]⟩)).1) ∧ W.cell? ⟨b, i * 2 + 1, none⟩ = some (.string (fs.getD i (⟨#[]⟩, ⟨#[]⟩)).2) := by
  unfold RowAt at h
  rw [cell_of_row _ _ _ _ _ _ h, cell_of_row _ _ _ _ _ _ h]
  simpa using rowOf_get fs i hi
theorem items_get {a b c d e f g a' b' c' d' e' f' g' : ByteArray} {p q r s t u v : Int × Int} (h : Item a a' p ∧ Item b b' q ∧ Item c c' r ∧ Item d d' s ∧ Item e e' t ∧ Item f f' u ∧ Item g g' v) (k : Nat) (hk : k < 7) :
    ∃ p, Item (([(a, a'), (b, b'), (c, c'), (d, d'), (e, e'), (f, f'), (g, g')] : List (ByteArray × ByteArray)).getD k (⟨#[]⟩, ⟨#[]⟩)).1 (([(a, a'), (b, b'), (c, c'), (d, d'), (e, e'), (f, f'), (g, g')] : List (ByteArray × ByteArray)).getD k (⟨#[]⟩, ⟨#[]⟩)).2 p := by
  obtain ⟨h1, h2, h3, h4, h5, h6, h7⟩ := h
  match k, hk with
  | 0, _ => exact ⟨_, h1⟩
  | 1, _ => exact ⟨_, h2⟩
  | 2, _ => exact ⟨_, h3⟩
  | 3, _ => exact ⟨_, h4⟩
  | 4, _ => exact ⟨_, h5⟩
  | 5, _ => exact ⟨_, h6⟩
  | 6, _ => exact ⟨_, h7⟩
/-- what a slice and boxes keep together -/
theorem StL.drop {w W : World} {x : Nat × ByteArray × ByteArray} {L : List (Nat × ByteArray × ByteArray)} (h : StL w W (x :: L)) : StL w W L :=
  ⟨h.g, h.below, h.box.2, (List.pairwise_cons.1 h.nd).2, fun z hz => h.lo z (by simp [hz])⟩

set_option maxRecDepth 100000 in
set_option maxHeartbeats 16000000 in
theorem fcanon_in (fn fd gn gd : ByteArray) (w : World) (hG : Ground w) (hf1 : fn.size ≤ 60) (hf2 : fd.size ≤ 60) (hg1 : gn.size ≤ 60) (hg2 : gd.size ≤ 60) :
    Calls Tryd.prog 6 #[.agg #[.string fn, .string fd], .agg #[.string gn, .string gd]] w fun e w' => e = .returned (.bool true) ∧ Below w.heap.size w w' := by
  have hl : flong 60 [(fn, fd), (gn, gd)] = false := flong_false (by simp; omega)
  have HL := Lib.hid hl
  obtain ⟨x, hx⟩ : ∃ x, raw fn fd = x := ⟨_, rfl⟩
  obtain ⟨y, hy⟩ : ∃ y, raw gn gd = y := ⟨_, rfl⟩
  have Hf : Giv 60 fn fd x := ⟨hx, hf1, hf2⟩
  have Hg : Giv 60 gn gd y := ⟨hy, hg1, hg2⟩
  have xp := Hf.pos
  have yp := Hg.pos
  obtain ⟨qu, qv, qe, qp, qi, q1⟩ := quo_item (Hf.arg (by decide)) (Hg.arg (by decide)) (Hf.cap (by decide)) (Hg.cap (by decide))
  have HQ := Lib.hid q1
  obtain ⟨c, r1, hr1, hc1, he1⟩ := same_item (x := x) (y := y) xp yp
  obtain ⟨ke, r2, hk1, hr2, he2⟩ := check_item (Hf.arg (by decide))
  have HC := Lib.hid hc1
  have HK := Lib.hid hk1
  have hia : Item (cS (low x).1) (cD (low x).2) (low x) := Item.of (CapP.mono (CapP.low (Hf.cap (by decide)) xp) (by decide)) (Low.of_low xp)
  have hib : Item (cS (low y).1) (cD (low y).2) (low y) := Item.of (CapP.mono (CapP.low (Hg.cap (by decide)) yp) (by decide)) (Low.of_low yp)
  have him : Item (cS (mulP x y).1) (cD (mulP x y).2) (mulP x y) := Item.of (CapP.mono (CapP.mul (Hf.cap (by decide)) (Hg.cap (by decide)) xp yp) (by decide)) (Low.of_mulP xp yp)
  have hin : Item (cS (negP x).1) (cD (negP x).2) (negP x) := Item.of (CapP.mono (CapP.neg (Hf.cap (by decide)) xp) (by decide)) (Low.of_negP xp)
  have his : Item (cS (subP x y).1) (cD (subP x y).2) (subP x y) := Item.of (CapP.mono (CapP.sub (Hf.cap (by decide)) (Hg.cap (by decide)) xp yp) (by decide)) (Low.of_red (Int.mul_pos xp yp))
  have hio : Item (cS (vS fn)) ⟨#[]⟩ (vS fn, 1) := ⟨⟨Int.one_pos, by simp⟩, rfl, cD_one.symm, ⟨Cap.mono (Cap.of hf1 rfl) (by decide), Cap.one (by decide)⟩⟩
  have HI := Lib.hid (And.intro hia (And.intro hib (And.intro qi (And.intro him (And.intro hin (And.intro his hio))))))
  have HOS := Lib.hid (show fn.size ≤ 100000 by omega)
  clear hl hx hy q1 qi hc1 hk1 hia hib him hin his hio
  obtain ⟨W0, hW0⟩ : ∃ W0, W0 = (w.alloc (.cells #[.string fn, .string fd] 24)).alloc (.cells #[.string gn, .string gd] 24) := ⟨_, rfl⟩
  have hS : StL w W0 [(w.heap.size + 1, gn, gd), (w.heap.size, fn, fd)] := by rw [hW0]; exact StL.two hG _ _ _ _
  go_enter Tryd.func6, Tryd.ntmps6
  go_upto_region 1 with fail
  rw [← hW0]
  clear hW0
  obtain ⟨fp0, fp1, _⟩ := hS.box
  obtain ⟨fx0, fy0, _, _⟩ := fp0.cells
  obtain ⟨fx1, fy1, _, _⟩ := fp1.cells
  go_wp2_with fail
  obtain ⟨W1, hW1⟩ : ∃ W1, W1 = W0.alloc (.cells #[.string fn, .string fd, .string gn, .string gd] 24) := ⟨_, rfl⟩
  have hc0 : ∀ i, i < 2 → W1.cell? ⟨W0.heap.size, i * 2, none⟩ = some (.string ([(fn, fd), (gn, gd)].getD i (⟨#[]⟩, ⟨#[]⟩)).1) ∧ W1.cell? ⟨W0.heap.size, i * 2 + 1, none⟩ = some (.string ([(fn, fd), (gn, gd)].getD i (⟨#[]⟩, ⟨#[]⟩)).2) := by rw [hW1]; exact fgreat_cells W0 [(fn, fd), (gn, gd)]
  have hS1 : StL w W1 [(w.heap.size + 1, gn, gd), (w.heap.size, fn, fd)] := by rw [hW1]; exact hS.other _
  rw [← hW1]
  clear fp0 fx0 fy0 fp1 fx1 fy1
  clear hW1 hS
  have hS := hS1
  clear hS1
  refine (rGreat_any W1 W0.heap.size 2 [(fn, fd), (gn, gd)] rfl (by decide) hc0).mono ?_
  rintro _ _ ⟨rfl, rfl⟩
  clear hc0
  rw [HL.out]
  obtain ⟨fp0, fp1, _⟩ := hS.box
  obtain ⟨fx0, fy0, _, _⟩ := fp0.cells
  obtain ⟨fx1, fy1, _, _⟩ := fp1.cells
  try go_upto_region 3 with fail
  have HS := Lib.hid hS
  clear hS
  have hne0 : W1.heap.size ≠ w.heap.size + 1 := World.new_ne W1 _ fx0
  have hle0_0 : w.heap.size + 1 < W1.heap.size := fp0.lt
  have hne1 : W1.heap.size ≠ w.heap.size := World.new_ne W1 _ fx1
  have hle1_0 : w.heap.size < W1.heap.size := fp1.lt
  go_cut [5, 6] (fun s5 s6 wx => ∃ b0_0 b0_1 : Nat, s5 = .pointer (some ⟨b0_0, 0, none⟩) ∧ s6 = .pointer (some ⟨b0_1, 0, none⟩) ∧ StL w wx [(b0_0, (cS (low x).1), (cD (low x).2)), (b0_1, (cS (low y).1), (cD (low y).2)), (w.heap.size + 1, gn, gd), (w.heap.size, fn, fd)])
  case first =>
    go_region_held3 (fun w' => w'.cell? ⟨w.heap.size + 1, 0, none⟩ = some (.string gn) ∧ w'.cell? ⟨w.heap.size + 1, 1, none⟩ = some (.string gd) ∧ w'.cell? ⟨w.heap.size, 0, none⟩ = some (.string fn) ∧ w'.cell? ⟨w.heap.size, 1, none⟩ = some (.string fd))
      (go_keep)
      (first
    | (go_at_call 11;
         (with_reducible refine Calls.mono (fAdd_v (z := low x) _ (by first | exact HS.out.g | exact HS.out.drew.g | exact (HS.out.drewN _).g | exact (HS.out.other _).g | exact (HS.out.drew.other _).g | exact (HS.out.other _).drew.g | exact ((HS.out.other _).other _).g | exact ((HS.out.drew.other _).other _).g | exact ((HS.out.other _).other _).drew.g | exact ((HS.out.drew.other _).drew.other _).g | exact ((HS.out.other _).drew.other _).g) (Hf.arg (by decide)) Val.zero addP_zero) ?_);
         (rintro e X0_1 ⟨rfl, hB1⟩);
         (first
           | ((have HS2 : StL w X0_1 ([(w.heap.size + 1, gn, gd), (w.heap.size, fn, fd)]) := (by first | exact HS.out.next hB1 | exact HS.out.next1 hB1 | exact HS.out.nextD hB1 | exact (HS.out.alloc _ _).next hB1 | exact (HS.out.drew.alloc _ _).next hB1 | exact (HS.out.alloc _ _).drew.next hB1 | exact (HS.out.alloc2 _ _ _ _).next hB1 | exact (HS.out.drew.alloc2 _ _ _ _).next hB1 | exact (HS.out.alloc2 _ _ _ _).drew.next hB1)); (replace HS := Lib.hid HS2); (clear HS2); (obtain ⟨fp0, fp1, _⟩ := HS.out.box); (obtain ⟨fx0, fy0, _, _⟩ := fp0.cells); (obtain ⟨fx1, fy1, _, _⟩ := fp1.cells); (have hle0_1 : w.heap.size + 1 < X0_1.heap.size := fp0.lt); (have hle1_1 : w.heap.size < X0_1.heap.size := fp1.lt))
           | ((have HS2 : StL w X0_1 ((W1.heap.size, ⟨#[]⟩, ⟨#[]⟩) :: [(w.heap.size + 1, gn, gd), (w.heap.size, fn, fd)]) := (by first | exact HS.out.next hB1 | exact HS.out.next1 hB1 | exact HS.out.nextD hB1 | exact (HS.out.alloc _ _).next hB1 | exact (HS.out.drew.alloc _ _).next hB1 | exact (HS.out.alloc _ _).drew.next hB1 | exact (HS.out.alloc2 _ _ _ _).next hB1 | exact (HS.out.drew.alloc2 _ _ _ _).next hB1 | exact (HS.out.alloc2 _ _ _ _).drew.next hB1)); (replace HS := Lib.hid HS2); (clear HS2); (obtain ⟨pn0, fp0, fp1, _⟩ := HS.out.box); (obtain ⟨nx0, ny0, nz0, nw0⟩ := pn0.cells); (have hnp0 : X0_1.heap.size ≠ W1.heap.size := World.new_ne _ _ nx0); (have hnq0 : W1.heap.size < X0_1.heap.size := pn0.lt); (obtain ⟨fx0, fy0, _, _⟩ := fp0.cells); (obtain ⟨fx1, fy1, _, _⟩ := fp1.cells); (have hle0_1 : w.heap.size + 1 < X0_1.heap.size := fp0.lt); (have hle1_1 : w.heap.size < X0_1.heap.size := fp1.lt); (have hnr0_0 : W1.heap.size ≠ w.heap.size + 1 := (by omega)); (have hnr0_1 : W1.heap.size ≠ w.heap.size := (by omega)))
           | ((have HS2 : StL w X0_1 ((W1.heap.size + 1, ⟨#[]⟩, ⟨#[]⟩) :: (W1.heap.size, ⟨#[]⟩, ⟨#[]⟩) :: [(w.heap.size + 1, gn, gd), (w.heap.size, fn, fd)]) := (by first | exact HS.out.next hB1 | exact HS.out.next1 hB1 | exact HS.out.nextD hB1 | exact (HS.out.alloc _ _).next hB1 | exact (HS.out.drew.alloc _ _).next hB1 | exact (HS.out.alloc _ _).drew.next hB1 | exact (HS.out.alloc2 _ _ _ _).next hB1 | exact (HS.out.drew.alloc2 _ _ _ _).next hB1 | exact (HS.out.alloc2 _ _ _ _).drew.next hB1)); (replace HS := Lib.hid HS2); (clear HS2); (obtain ⟨pn0, pn1, fp0, fp1, _⟩ := HS.out.box); (obtain ⟨nx0, ny0, nz0, nw0⟩ := pn0.cells); (have hnp0 : X0_1.heap.size ≠ W1.heap.size + 1 := World.new_ne _ _ nx0); (have hnq0 : W1.heap.size + 1 < X0_1.heap.size := pn0.lt); (obtain ⟨nx1, ny1, nz1, nw1⟩ := pn1.cells); (have hnp1 : X0_1.heap.size ≠ W1.heap.size := World.new_ne _ _ nx1); (have hnq1 : W1.heap.size < X0_1.heap.size := pn1.lt); (obtain ⟨fx0, fy0, _, _⟩ := fp0.cells); (obtain ⟨fx1, fy1, _, _⟩ := fp1.cells); (have hle0_1 : w.heap.size + 1 < X0_1.heap.size := fp0.lt); (have hle1_1 : w.heap.size < X0_1.heap.size := fp1.lt); (have hnr0_0 : W1.heap.size + 1 ≠ w.heap.size + 1 := (by omega)); (have hnr0_1 : W1.heap.size + 1 ≠ w.heap.size := (by omega)); (have hnr1_0 : W1.heap.size ≠ w.heap.size + 1 := (by omega)); (have hnr1_1 : W1.heap.size ≠ w.heap.size := (by omega)); (have hnd01 : W1.heap.size + 1 ≠ W1.heap.size := (List.pairwise_cons.1 HS.out.nd).1 _ (List.mem_cons_self ..))));
         (clear hB1);
         (have hne0 : X0_1.heap.size ≠ w.heap.size + 1 := World.new_ne X0_1 _ fx0);
         (have hne1 : X0_1.heap.size ≠ w.heap.size := World.new_ne X0_1 _ fx1))
    | (go_at_call 11;
         (with_reducible refine Calls.mono (fAdd_v (z := low y) _ (by first | exact HS.out.g | exact HS.out.drew.g | exact (HS.out.drewN _).g | exact (HS.out.other _).g | exact (HS.out.drew.other _).g | exact (HS.out.other _).drew.g | exact ((HS.out.other _).other _).g | exact ((HS.out.drew.other _).other _).g | exact ((HS.out.other _).other _).drew.g | exact ((HS.out.drew.other _).drew.other _).g | exact ((HS.out.other _).drew.other _).g) (Hg.arg (by decide)) Val.zero addP_zero) ?_);
         (rintro e X0_2 ⟨rfl, hB1⟩);
         (first
           | ((have HS2 : StL w X0_2 ([(w.heap.size + 1, gn, gd), (w.heap.size, fn, fd)]) := (by first | exact HS.out.next hB1 | exact HS.out.next1 hB1 | exact HS.out.nextD hB1 | exact (HS.out.alloc _ _).next hB1 | exact (HS.out.drew.alloc _ _).next hB1 | exact (HS.out.alloc _ _).drew.next hB1 | exact (HS.out.alloc2 _ _ _ _).next hB1 | exact (HS.out.drew.alloc2 _ _ _ _).next hB1 | exact (HS.out.alloc2 _ _ _ _).drew.next hB1)); (replace HS := Lib.hid HS2); (clear HS2); (obtain ⟨fp0, fp1, _⟩ := HS.out.box); (obtain ⟨fx0, fy0, _, _⟩ := fp0.cells); (obtain ⟨fx1, fy1, _, _⟩ := fp1.cells); (have hle0_2 : w.heap.size + 1 < X0_2.heap.size := fp0.lt); (have hle1_2 : w.heap.size < X0_2.heap.size := fp1.lt))
           | ((have HS2 : StL w X0_2 ((X0_1.heap.size, ⟨#[]⟩, ⟨#[]⟩) :: [(w.heap.size + 1, gn, gd), (w.heap.size, fn, fd)]) := (by first | exact HS.out.next hB1 | exact HS.out.next1 hB1 | exact HS.out.nextD hB1 | exact (HS.out.alloc _ _).next hB1 | exact (HS.out.drew.alloc _ _).next hB1 | exact (HS.out.alloc _ _).drew.next hB1 | exact (HS.out.alloc2 _ _ _ _).next hB1 | exact (HS.out.drew.alloc2 _ _ _ _).next hB1 | exact (HS.out.alloc2 _ _ _ _).drew.next hB1)); (replace HS := Lib.hid HS2); (clear HS2); (obtain ⟨pn0, fp0, fp1, _⟩ := HS.out.box); (obtain ⟨nx0, ny0, nz0, nw0⟩ := pn0.cells); (have hnp0 : X0_2.heap.size ≠ X0_1.heap.size := World.new_ne _ _ nx0); (have hnq0 : X0_1.heap.size < X0_2.heap.size := pn0.lt); (obtain ⟨fx0, fy0, _, _⟩ := fp0.cells); (obtain ⟨fx1, fy1, _, _⟩ := fp1.cells); (have hle0_2 : w.heap.size + 1 < X0_2.heap.size := fp0.lt); (have hle1_2 : w.heap.size < X0_2.heap.size := fp1.lt); (have hnr0_0 : X0_1.heap.size ≠ w.heap.size + 1 := (by omega)); (have hnr0_1 : X0_1.heap.size ≠ w.heap.size := (by omega)))
           | ((have HS2 : StL w X0_2 ((X0_1.heap.size + 1, ⟨#[]⟩, ⟨#[]⟩) :: (X0_1.heap.size, ⟨#[]⟩, ⟨#[]⟩) :: [(w.heap.size + 1, gn, gd), (w.heap.size, fn, fd)]) := (by first | exact HS.out.next hB1 | exact HS.out.next1 hB1 | exact HS.out.nextD hB1 | exact (HS.out.alloc _ _).next hB1 | exact (HS.out.drew.alloc _ _).next hB1 | exact (HS.out.alloc _ _).drew.next hB1 | exact (HS.out.alloc2 _ _ _ _).next hB1 | exact (HS.out.drew.alloc2 _ _ _ _).next hB1 | exact (HS.out.alloc2 _ _ _ _).drew.next hB1)); (replace HS := Lib.hid HS2); (clear HS2); (obtain ⟨pn0, pn1, fp0, fp1, _⟩ := HS.out.box); (obtain ⟨nx0, ny0, nz0, nw0⟩ := pn0.cells); (have hnp0 : X0_2.heap.size ≠ X0_1.heap.size + 1 := World.new_ne _ _ nx0); (have hnq0 : X0_1.heap.size + 1 < X0_2.heap.size := pn0.lt); (obtain ⟨nx1, ny1, nz1, nw1⟩ := pn1.cells); (have hnp1 : X0_2.heap.size ≠ X0_1.heap.size := World.new_ne _ _ nx1); (have hnq1 : X0_1.heap.size < X0_2.heap.size := pn1.lt); (obtain ⟨fx0, fy0, _, _⟩ := fp0.cells); (obtain ⟨fx1, fy1, _, _⟩ := fp1.cells); (have hle0_2 : w.heap.size + 1 < X0_2.heap.size := fp0.lt); (have hle1_2 : w.heap.size < X0_2.heap.size := fp1.lt); (have hnr0_0 : X0_1.heap.size + 1 ≠ w.heap.size + 1 := (by omega)); (have hnr0_1 : X0_1.heap.size + 1 ≠ w.heap.size := (by omega)); (have hnr1_0 : X0_1.heap.size ≠ w.heap.size + 1 := (by omega)); (have hnr1_1 : X0_1.heap.size ≠ w.heap.size := (by omega)); (have hnd01 : X0_1.heap.size + 1 ≠ X0_1.heap.size := (List.pairwise_cons.1 HS.out.nd).1 _ (List.mem_cons_self ..)))
           | ((have HS2 : StL w X0_2 ((W1.heap.size, ⟨#[]⟩, ⟨#[]⟩) :: [(w.heap.size + 1, gn, gd), (w.heap.size, fn, fd)]) := (by first | exact HS.out.next hB1 | exact HS.out.next1 hB1 | exact HS.out.nextD hB1 | exact (HS.out.alloc _ _).next hB1 | exact (HS.out.drew.alloc _ _).next hB1 | exact (HS.out.alloc _ _).drew.next hB1 | exact (HS.out.alloc2 _ _ _ _).next hB1 | exact (HS.out.drew.alloc2 _ _ _ _).next hB1 | exact (HS.out.alloc2 _ _ _ _).drew.next hB1)); (replace HS := Lib.hid HS2); (clear HS2); (obtain ⟨pn0, fp0, fp1, _⟩ := HS.out.box); (obtain ⟨nx0, ny0, nz0, nw0⟩ := pn0.cells); (have hnp0 : X0_2.heap.size ≠ W1.heap.size := World.new_ne _ _ nx0); (have hnq0 : W1.heap.size < X0_2.heap.size := pn0.lt); (obtain ⟨fx0, fy0, _, _⟩ := fp0.cells); (obtain ⟨fx1, fy1, _, _⟩ := fp1.cells); (have hle0_2 : w.heap.size + 1 < X0_2.heap.size := fp0.lt); (have hle1_2 : w.heap.size < X0_2.heap.size := fp1.lt); (have hnr0_0 : W1.heap.size ≠ w.heap.size + 1 := (by omega)); (have hnr0_1 : W1.heap.size ≠ w.heap.size := (by omega)))
           | ((have HS2 : StL w X0_2 ((X0_1.heap.size, ⟨#[]⟩, ⟨#[]⟩) :: (W1.heap.size, ⟨#[]⟩, ⟨#[]⟩) :: [(w.heap.size + 1, gn, gd), (w.heap.size, fn, fd)]) := (by first | exact HS.out.next hB1 | exact HS.out.next1 hB1 | exact HS.out.nextD hB1 | exact (HS.out.alloc _ _).next hB1 | exact (HS.out.drew.alloc _ _).next hB1 | exact (HS.out.alloc _ _).drew.next hB1 | exact (HS.out.alloc2 _ _ _ _).next hB1 | exact (HS.out.drew.alloc2 _ _ _ _).next hB1 | exact (HS.out.alloc2 _ _ _ _).drew.next hB1)); (replace HS := Lib.hid HS2); (clear HS2); (obtain ⟨pn0, pn1, fp0, fp1, _⟩ := HS.out.box); (obtain ⟨nx0, ny0, nz0, nw0⟩ := pn0.cells); (have hnp0 : X0_2.heap.size ≠ X0_1.heap.size := World.new_ne _ _ nx0); (have hnq0 : X0_1.heap.size < X0_2.heap.size := pn0.lt); (obtain ⟨nx1, ny1, nz1, nw1⟩ := pn1.cells); (have hnp1 : X0_2.heap.size ≠ W1.heap.size := World.new_ne _ _ nx1); (have hnq1 : W1.heap.size < X0_2.heap.size := pn1.lt); (obtain ⟨fx0, fy0, _, _⟩ := fp0.cells); (obtain ⟨fx1, fy1, _, _⟩ := fp1.cells); (have hle0_2 : w.heap.size + 1 < X0_2.heap.size := fp0.lt); (have hle1_2 : w.heap.size < X0_2.heap.size := fp1.lt); (have hnr0_0 : X0_1.heap.size ≠ w.heap.size + 1 := (by omega)); (have hnr0_1 : X0_1.heap.size ≠ w.heap.size := (by omega)); (have hnr1_0 : W1.heap.size ≠ w.heap.size + 1 := (by omega)); (have hnr1_1 : W1.heap.size ≠ w.heap.size := (by omega)); (have hnd01 : X0_1.heap.size ≠ W1.heap.size := (List.pairwise_cons.1 HS.out.nd).1 _ (List.mem_cons_self ..)))
           | ((have HS2 : StL w X0_2 ((W1.heap.size + 1, ⟨#[]⟩, ⟨#[]⟩) :: (W1.heap.size, ⟨#[]⟩, ⟨#[]⟩) :: [(w.heap.size + 1, gn, gd), (w.heap.size, fn, fd)]) := (by first | exact HS.out.next hB1 | exact HS.out.next1 hB1 | exact HS.out.nextD hB1 | exact (HS.out.alloc _ _).next hB1 | exact (HS.out.drew.alloc _ _).next hB1 | exact (HS.out.alloc _ _).drew.next hB1 | exact (HS.out.alloc2 _ _ _ _).next hB1 | exact (HS.out.drew.alloc2 _ _ _ _).next hB1 | exact (HS.out.alloc2 _ _ _ _).drew.next hB1)); (replace HS := Lib.hid HS2); (clear HS2); (obtain ⟨pn0, pn1, fp0, fp1, _⟩ := HS.out.box); (obtain ⟨nx0, ny0, nz0, nw0⟩ := pn0.cells); (have hnp0 : X0_2.heap.size ≠ W1.heap.size + 1 := World.new_ne _ _ nx0); (have hnq0 : W1.heap.size + 1 < X0_2.heap.size := pn0.lt); (obtain ⟨nx1, ny1, nz1, nw1⟩ := pn1.cells); (have hnp1 : X0_2.heap.size ≠ W1.heap.size := World.new_ne _ _ nx1); (have hnq1 : W1.heap.size < X0_2.heap.size := pn1.lt); (obtain ⟨fx0, fy0, _, _⟩ := fp0.cells); (obtain ⟨fx1, fy1, _, _⟩ := fp1.cells); (have hle0_2 : w.heap.size + 1 < X0_2.heap.size := fp0.lt); (have hle1_2 : w.heap.size < X0_2.heap.size := fp1.lt); (have hnr0_0 : W1.heap.size + 1 ≠ w.heap.size + 1 := (by omega)); (have hnr0_1 : W1.heap.size + 1 ≠ w.heap.size := (by omega)); (have hnr1_0 : W1.heap.size ≠ w.heap.size + 1 := (by omega)); (have hnr1_1 : W1.heap.size ≠ w.heap.size := (by omega)); (have hnd01 : W1.heap.size + 1 ≠ W1.heap.size := (List.pairwise_cons.1 HS.out.nd).1 _ (List.mem_cons_self ..))));
         (clear hB1);
         (have hne0 : X0_2.heap.size ≠ w.heap.size + 1 := World.new_ne X0_2 _ fx0);
         (have hne1 : X0_2.heap.size ≠ w.heap.size := World.new_ne X0_2 _ fx1)))
    all_goals go_wp2_with fail
    all_goals go_meet
    all_goals refine ⟨_, _, rfl, rfl, ?_⟩
    all_goals first
      | with_reducible exact (HS.out.alloc2 _ _ _ _).swap
      | with_reducible exact HS.out.alloc2 _ _ _ _
      | with_reducible exact (StL.fillA hG HS.out _ _ _ _).swap
      | with_reducible exact StL.fillA hG HS.out _ _ _ _
      | with_reducible exact (StL.fill hG (StL.fill hG HS.out _ _).swap _ _).swap
      | with_reducible exact (StL.fill hG (StL.fill hG HS.out.swap _ _).swap _ _).swap
      | with_reducible exact (HS.out.drew.alloc2 _ _ _ _).swap
      | with_reducible exact HS.out.drew.alloc2 _ _ _ _
      | with_reducible exact (StL.fillA hG HS.out.drew _ _ _ _).swap
      | with_reducible exact StL.fillA hG HS.out.drew _ _ _ _
      | with_reducible exact (StL.fill hG (StL.fill hG HS.out.drew _ _).swap _ _).swap
      | with_reducible exact (StL.fill hG (StL.fill hG HS.out.drew.swap _ _).swap _ _).swap
  clear HS hne0 hle0_0 hne1 hle1_0
  clear fp0 fx0 fy0 fp1 fx1 fy1
  obtain ⟨b0_0, b0_1, rfl, rfl, hS⟩ := hcut
  obtain ⟨w1, hw⟩ : ∃ W, W = wc := ⟨_, rfl⟩
  rw [← hw] at hS
  rw [← hw]
  clear hw
  go_upto_region 4 with fail
  obtain ⟨fp0, fp1, fp2, fp3, _⟩ := hS.box
  obtain ⟨fx0, fy0, _, _⟩ := fp0.cells
  obtain ⟨fx1, fy1, _, _⟩ := fp1.cells
  obtain ⟨fx2, fy2, _, _⟩ := fp2.cells
  obtain ⟨fx3, fy3, _, _⟩ := fp3.cells
  go_wp2_with fail
  clear fp0 fx0 fy0 fp1 fx1 fy1 fp2 fx2 fy2 fp3 fx3 fy3
  refine Calls.mono (Rets.call HQ.out _ hS.g) ?_
  rintro _ w2 ⟨rfl, hB⟩
  replace hS := hS.next hB
  clear hB
  go_upto_region 5 with fail
  obtain ⟨b3, hb3⟩ : ∃ b, b = w2.heap.size := ⟨_, rfl⟩
  obtain ⟨V3, hV3⟩ : ∃ V, V = w2.alloc (.cells #[.string qu, .string qv] 24) := ⟨_, rfl⟩
  have hT : StL w V3 [(b3, qu, qv), (b0_0, (cS (low x).1), (cD (low x).2)), (b0_1, (cS (low y).1), (cD (low y).2)), (w.heap.size + 1, gn, gd), (w.heap.size, fn, fd)] := by rw [hV3, hb3]; exact hS.alloc _ _
  rw [← hb3, ← hV3]
  clear hV3 hb3 hS
  have hS := hT
  clear hT
  obtain ⟨fp0, fp1, fp2, fp3, fp4, _⟩ := hS.box
  obtain ⟨fx0, fy0, _, _⟩ := fp0.cells
  obtain ⟨fx1, fy1, _, _⟩ := fp1.cells
  obtain ⟨fx2, fy2, _, _⟩ := fp2.cells
  obtain ⟨fx3, fy3, _, _⟩ := fp3.cells
  obtain ⟨fx4, fy4, _, _⟩ := fp4.cells
  have HS := Lib.hid hS
  clear hS
  go_cut [46, 47, 48] (fun s46 s47 s48 wx => ∃ B : Nat, s46 = .slice (some ⟨B, 0, none⟩) 7 7 ∧ s47 = .int .i64 7 ∧ s48 = .int .i64 0 ∧ StL w wx [(b3, qu, qv), (b0_0, (cS (low x).1), (cD (low x).2)), (b0_1, (cS (low y).1), (cD (low y).2)), (w.heap.size + 1, gn, gd), (w.heap.size, fn, fd)] ∧ RowAt wx B [((cS (low x).1), (cD (low x).2)), ((cS (low y).1), (cD (low y).2)), (qu, qv), ((cS (mulP x y).1), (cD (mulP x y).2)), ((cS (negP x).1), (cD (negP x).2)), ((cS (subP x y).1), (cD (subP x y).2)), ((cS (vS fn)), ⟨#[]⟩)])
  case first =>
    go_region_held3 (fun w' => w'.cell? ⟨b3, 0, none⟩ = some (.string qu) ∧ w'.cell? ⟨b3, 1, none⟩ = some (.string qv) ∧ w'.cell? ⟨b0_0, 0, none⟩ = some (.string (cS (low x).1)) ∧ w'.cell? ⟨b0_0, 1, none⟩ = some (.string (cD (low x).2)) ∧ w'.cell? ⟨b0_1, 0, none⟩ = some (.string (cS (low y).1)) ∧ w'.cell? ⟨b0_1, 1, none⟩ = some (.string (cD (low y).2)) ∧ w'.cell? ⟨w.heap.size + 1, 0, none⟩ = some (.string gn) ∧ w'.cell? ⟨w.heap.size + 1, 1, none⟩ = some (.string gd) ∧ w'.cell? ⟨w.heap.size, 0, none⟩ = some (.string fn) ∧ w'.cell? ⟨w.heap.size, 1, none⟩ = some (.string fd))
      (go_keep)
      (first
    | (go_at_call 12;
         (first
           | (with_reducible refine Calls.mono (fMul_v (z := mulP x y) _ (by first | exact HS.out.g | exact HS.out.drew.g | exact (HS.out.drewN _).g) (Hf.arg (by decide)) (Hg.arg (by decide)) rfl) ?_));
         (rintro e WX ⟨rfl, hB1⟩);
         (have HS2 : StL w WX [(b3, qu, qv), (b0_0, (cS (low x).1), (cD (low x).2)), (b0_1, (cS (low y).1), (cD (low y).2)), (w.heap.size + 1, gn, gd), (w.heap.size, fn, fd)] := (by first | exact HS.out.next hB1 | exact HS.out.next1 hB1 | exact HS.out.nextD hB1));
         (replace HS := Lib.hid HS2);
         (clear hB1 HS2);
         (obtain ⟨fp0, fp1, fp2, fp3, fp4, _⟩ := HS.out.box);
         (obtain ⟨fx0, fy0, _, _⟩ := fp0.cells);
         (obtain ⟨fx1, fy1, _, _⟩ := fp1.cells);
         (obtain ⟨fx2, fy2, _, _⟩ := fp2.cells);
         (obtain ⟨fx3, fy3, _, _⟩ := fp3.cells);
         (obtain ⟨fx4, fy4, _, _⟩ := fp4.cells))
    | (go_at_call 14;
         (first
           | (with_reducible refine Calls.mono (fNeg_v (z := negP x) _ (by first | exact HS.out.g | exact HS.out.drew.g | exact (HS.out.drewN _).g) (Hf.arg (by decide)) rfl) ?_));
         (rintro e WX ⟨rfl, hB1⟩);
         (have HS2 : StL w WX [(b3, qu, qv), (b0_0, (cS (low x).1), (cD (low x).2)), (b0_1, (cS (low y).1), (cD (low y).2)), (w.heap.size + 1, gn, gd), (w.heap.size, fn, fd)] := (by first | exact HS.out.next hB1 | exact HS.out.next1 hB1 | exact HS.out.nextD hB1));
         (replace HS := Lib.hid HS2);
         (clear hB1 HS2);
         (obtain ⟨fp0, fp1, fp2, fp3, fp4, _⟩ := HS.out.box);
         (obtain ⟨fx0, fy0, _, _⟩ := fp0.cells);
         (obtain ⟨fx1, fy1, _, _⟩ := fp1.cells);
         (obtain ⟨fx2, fy2, _, _⟩ := fp2.cells);
         (obtain ⟨fx3, fy3, _, _⟩ := fp3.cells);
         (obtain ⟨fx4, fy4, _, _⟩ := fp4.cells))
    | (go_at_call 13;
         (first
           | (with_reducible refine Calls.mono (fSub_v (z := subP x y) _ (by first | exact HS.out.g | exact HS.out.drew.g | exact (HS.out.drewN _).g) (Hf.arg (by decide)) (Hg.arg (by decide)) rfl) ?_));
         (rintro e WX ⟨rfl, hB1⟩);
         (have HS2 : StL w WX [(b3, qu, qv), (b0_0, (cS (low x).1), (cD (low x).2)), (b0_1, (cS (low y).1), (cD (low y).2)), (w.heap.size + 1, gn, gd), (w.heap.size, fn, fd)] := (by first | exact HS.out.next hB1 | exact HS.out.next1 hB1 | exact HS.out.nextD hB1));
         (replace HS := Lib.hid HS2);
         (clear hB1 HS2);
         (obtain ⟨fp0, fp1, fp2, fp3, fp4, _⟩ := HS.out.box);
         (obtain ⟨fx0, fy0, _, _⟩ := fp0.cells);
         (obtain ⟨fx1, fy1, _, _⟩ := fp1.cells);
         (obtain ⟨fx2, fy2, _, _⟩ := fp2.cells);
         (obtain ⟨fx3, fy3, _, _⟩ := fp3.cells);
         (obtain ⟨fx4, fy4, _, _⟩ := fp4.cells))
    | (go_at_call 18;
         (first
           | (with_reducible refine Calls.mono (fOf_v (p := vS fn) _ (by first | exact HS.out.g | exact HS.out.drew.g | exact (HS.out.drewN _).g) HOS.out rfl) ?_));
         (rintro e WX ⟨rfl, hB1⟩);
         (have HS2 : StL w WX [(b3, qu, qv), (b0_0, (cS (low x).1), (cD (low x).2)), (b0_1, (cS (low y).1), (cD (low y).2)), (w.heap.size + 1, gn, gd), (w.heap.size, fn, fd)] := (by first | exact HS.out.next hB1 | exact HS.out.next1 hB1 | exact HS.out.nextD hB1));
         (replace HS := Lib.hid HS2);
         (clear hB1 HS2);
         (obtain ⟨fp0, fp1, fp2, fp3, fp4, _⟩ := HS.out.box);
         (obtain ⟨fx0, fy0, _, _⟩ := fp0.cells);
         (obtain ⟨fx1, fy1, _, _⟩ := fp1.cells);
         (obtain ⟨fx2, fy2, _, _⟩ := fp2.cells);
         (obtain ⟨fx3, fy3, _, _⟩ := fp3.cells);
         (obtain ⟨fx4, fy4, _, _⟩ := fp4.cells)))
    all_goals go_wp2_with fail
    all_goals go_meet
    all_goals refine ⟨_, rfl, rfl, rfl, by first | exact HS.out.other _ | exact (HS.out.other _).drew | exact HS.out.drew.other _, ?_⟩
    all_goals exact heap_alloc_new _ _
  clear HS
  clear fp0 fx0 fy0 fp1 fx1 fy1 fp2 fx2 fy2 fp3 fx3 fy3 fp4 fx4 fy4
  obtain ⟨B, rfl, rfl, rfl, hS, hrow⟩ := hcut
  go_wp2_with fail
  go_loopw [48] (fun iv wr => ∃ k : Nat, k ≤ 7 ∧ iv = .int .i64 (k : Int) ∧ StL w wr [(b3, qu, qv), (b0_0, (cS (low x).1), (cD (low x).2)), (b0_1, (cS (low y).1), (cD (low y).2)), (w.heap.size + 1, gn, gd), (w.heap.size, fn, fd)] ∧ RowAt wr B [((cS (low x).1), (cD (low x).2)), ((cS (low y).1), (cD (low y).2)), (qu, qv), ((cS (mulP x y).1), (cD (mulP x y).2)), ((cS (negP x).1), (cD (negP x).2)), ((cS (subP x y).1), (cD (subP x y).2)), ((cS (vS fn)), ⟨#[]⟩)]) (fun iv _ => 7 - (intOf iv).toNat)
  case atStart => exact ⟨0, Nat.zero_le _, rfl, hS, hrow⟩
  case round =>
    clear hS hrow
    obtain ⟨k, hk, rfl, hS, hrow⟩ := hrel
    by_cases hlt : k < 7
    · have hkk : k < ([((cS (low x).1), (cD (low x).2)), ((cS (low y).1), (cD (low y).2)), (qu, qv), ((cS (mulP x y).1), (cD (mulP x y).2)), ((cS (negP x).1), (cD (negP x).2)), ((cS (subP x y).1), (cD (subP x y).2)), ((cS (vS fn)), ⟨#[]⟩)] : List (ByteArray × ByteArray)).length := hlt
      obtain ⟨h0, h1⟩ := hrow.cells k hkk
      obtain ⟨p, hit⟩ := items_get HI.out k hlt
      obtain ⟨⟨u, v⟩, huv⟩ : ∃ f, f = ([((cS (low x).1), (cD (low x).2)), ((cS (low y).1), (cD (low y).2)), (qu, qv), ((cS (mulP x y).1), (cD (mulP x y).2)), ((cS (negP x).1), (cD (negP x).2)), ((cS (subP x y).1), (cD (subP x y).2)), ((cS (vS fn)), ⟨#[]⟩)] : List (ByteArray × ByteArray)).getD k (⟨#[]⟩, ⟨#[]⟩) := ⟨_, rfl⟩
      rw [← huv] at h0 h1 hit
      have hrow0 := Lib.hid hrow
      have HIT := Lib.hid hit
      have hk7 : (k : Int) < 7 := by omega
      have hwk : IntKind.i64.wrap ((k : Int) + 1) = (k : Int) + 1 := IntWalk.i64_in _ (by omega)
      clear hrow huv hit hkk
      go_upto_region 8 with fail
      obtain ⟨b70, hb70⟩ : ∃ b, b = wr.heap.size := ⟨_, rfl⟩
      obtain ⟨V70, hV70⟩ : ∃ V, V = wr.alloc (.cells #[.string u, .string v] 24) := ⟨_, rfl⟩
      have hT : StL w V70 [(b70, u, v), (b3, qu, qv), (b0_0, (cS (low x).1), (cD (low x).2)), (b0_1, (cS (low y).1), (cD (low y).2)), (w.heap.size + 1, gn, gd), (w.heap.size, fn, fd)] := by rw [hV70, hb70]; exact hS.alloc _ _
      have hrow1 : RowAt V70 B [((cS (low x).1), (cD (low x).2)), ((cS (low y).1), (cD (low y).2)), (qu, qv), ((cS (mulP x y).1), (cD (mulP x y).2)), ((cS (negP x).1), (cD (negP x).2)), ((cS (subP x y).1), (cD (subP x y).2)), ((cS (vS fn)), ⟨#[]⟩)] := by rw [hV70]; exact hrow0.out.below ((Below.refl _ _).alloc (Nat.le_refl _) _)
      replace hrow0 := Lib.hid hrow1
      clear hrow1
      rw [← hb70, ← hV70]
      clear hV70 hb70 hS
      have hS := hT
      clear hT
      obtain ⟨fp0, fp1, fp2, fp3, fp4, fp5, _⟩ := hS.box
      obtain ⟨fx0, fy0, _, _⟩ := fp0.cells
      obtain ⟨fx1, fy1, _, _⟩ := fp1.cells
      obtain ⟨fx2, fy2, _, _⟩ := fp2.cells
      obtain ⟨fx3, fy3, _, _⟩ := fp3.cells
      obtain ⟨fx4, fy4, _, _⟩ := fp4.cells
      obtain ⟨fx5, fy5, _, _⟩ := fp5.cells
      go_wp2_with fail
      clear fp0 fx0 fy0 fp1 fx1 fy1 fp2 fx2 fy2 fp3 fx3 fy3 fp4 fx4 fy4 fp5 fx5 fy5
      refine Calls.mono (fParts_v (z := p) _ hS.g (HIT.out.val) HIT.out.1.eq) ?_
      rintro _ w4 ⟨rfl, hB⟩
      replace hS := hS.next hB
      have hrow0 := Lib.hid (hrow0.out.below hB)
      clear hB
      obtain ⟨fp0, fp1, fp2, fp3, fp4, fp5, _⟩ := hS.box
      obtain ⟨fx0, fy0, _, _⟩ := fp0.cells
      obtain ⟨fx1, fy1, _, _⟩ := fp1.cells
      obtain ⟨fx2, fy2, _, _⟩ := fp2.cells
      obtain ⟨fx3, fy3, _, _⟩ := fp3.cells
      obtain ⟨fx4, fy4, _, _⟩ := fp4.cells
      obtain ⟨fx5, fy5, _, _⟩ := fp5.cells
      go_wp2_with fail
      clear fp0 fx0 fy0 fp1 fx1 fy1 fp2 fx2 fy2 fp3 fx3 fy3 fp4 fx4 fy4 fp5 fx5 fy5
      refine Calls.mono (fNew_v (p := p.1) (q := p.2) (z := p) _ hS.g HIT.out.s1 HIT.out.s2 (vS_cS _) (vS_cS _) HIT.out.ne HIT.out.redS) ?_
      rintro _ w5 ⟨rfl, hB⟩
      replace hS := hS.next hB
      have hrow0 := Lib.hid (hrow0.out.below hB)
      clear hB
      rw [← HIT.out.2.1, ← HIT.out.2.2.1]
      go_upto_region 10 with fail
      obtain ⟨b6, hb6⟩ : ∃ b, b = w5.heap.size := ⟨_, rfl⟩
      obtain ⟨V6, hV6⟩ : ∃ V, V = w5.alloc (.cells #[.string u, .string v] 24) := ⟨_, rfl⟩
      have hT : StL w V6 [(b6, u, v), (b70, u, v), (b3, qu, qv), (b0_0, (cS (low x).1), (cD (low x).2)), (b0_1, (cS (low y).1), (cD (low y).2)), (w.heap.size + 1, gn, gd), (w.heap.size, fn, fd)] := by rw [hV6, hb6]; exact hS.alloc _ _
      have hrow1 : RowAt V6 B [((cS (low x).1), (cD (low x).2)), ((cS (low y).1), (cD (low y).2)), (qu, qv), ((cS (mulP x y).1), (cD (mulP x y).2)), ((cS (negP x).1), (cD (negP x).2)), ((cS (subP x y).1), (cD (subP x y).2)), ((cS (vS fn)), ⟨#[]⟩)] := by rw [hV6]; exact hrow0.out.below ((Below.refl _ _).alloc (Nat.le_refl _) _)
      replace hrow0 := Lib.hid hrow1
      clear hrow1
      rw [← hb6, ← hV6]
      clear hV6 hb6 hS
      have hS := hT
      clear hT
      have hgu := frac_guardn
      have hnq := frac_nsame
      obtain ⟨fp0, fp1, fp2, fp3, fp4, fp5, fp6, _⟩ := hS.box
      obtain ⟨fx0, fy0, _, _⟩ := fp0.cells
      obtain ⟨fx1, fy1, _, _⟩ := fp1.cells
      obtain ⟨fx2, fy2, _, _⟩ := fp2.cells
      obtain ⟨fx3, fy3, _, _⟩ := fp3.cells
      obtain ⟨fx4, fy4, _, _⟩ := fp4.cells
      obtain ⟨fx5, fy5, _, _⟩ := fp5.cells
      obtain ⟨fx6, fy6, _, _⟩ := fp6.cells
      go_wp2_with fail
      clear fp0 fx0 fy0 fp1 fx1 fy1 fp2 fx2 fy2 fp3 fx3 fy3 fp4 fx4 fy4 fp5 fx5 fy5 fp6 fx6 fy6
      refine Calls.mono (fCheck_v _ hS.g (HIT.out.val) HIT.out.1 HIT.out.2.1 HIT.out.2.2.1) ?_
      rintro _ w7 ⟨rfl, hB⟩
      replace hS := hS.next hB
      have hrow0 := Lib.hid (hrow0.out.below hB)
      clear hB
      obtain ⟨fp0, fp1, fp2, fp3, fp4, fp5, fp6, _⟩ := hS.box
      obtain ⟨fx0, fy0, _, _⟩ := fp0.cells
      obtain ⟨fx1, fy1, _, _⟩ := fp1.cells
      obtain ⟨fx2, fy2, _, _⟩ := fp2.cells
      obtain ⟨fx3, fy3, _, _⟩ := fp3.cells
      obtain ⟨fx4, fy4, _, _⟩ := fp4.cells
      obtain ⟨fx5, fy5, _, _⟩ := fp5.cells
      obtain ⟨fx6, fy6, _, _⟩ := fp6.cells
      go_wp2_with fail
      clear fp0 fx0 fy0 fp1 fx1 fy1 fp2 fx2 fy2 fp3 fx3 fy3 fp4 fx4 fy4 fp5 fx5 fy5 fp6 fx6 fy6
      refine Calls.mono (gcd_v (x := p.1) (y := p.2) (z := 1) _ hS.g HIT.out.u1 HIT.out.t2 HIT.out.vu (vS_cS _) HIT.out.gcd) ?_
      rintro _ w8 ⟨rfl, hB⟩
      replace hS := hS.next hB
      have hrow0 := Lib.hid (hrow0.out.below hB)
      clear hB
      rw [cS_one]
      obtain ⟨fp0, fp1, fp2, fp3, fp4, fp5, fp6, _⟩ := hS.box
      obtain ⟨fx0, fy0, _, _⟩ := fp0.cells
      obtain ⟨fx1, fy1, _, _⟩ := fp1.cells
      obtain ⟨fx2, fy2, _, _⟩ := fp2.cells
      obtain ⟨fx3, fy3, _, _⟩ := fp3.cells
      obtain ⟨fx4, fy4, _, _⟩ := fp4.cells
      obtain ⟨fx5, fy5, _, _⟩ := fp5.cells
      obtain ⟨fx6, fy6, _, _⟩ := fp6.cells
      go_wp2_with fail
      clear fp0 fx0 fy0 fp1 fx1 fy1 fp2 fx2 fy2 fp3 fx3 fy3 fp4 fx4 fy4 fp5 fx5 fy5 fp6 fx6 fy6
      refine Calls.mono (compare_v (x := p.2) (y := 0) (z := 1) _ HIT.out.t2 (by decide) (vS_cS _) vS_nil (cmp3_gt HIT.out.1.1)) ?_
      rintro _ w9 ⟨rfl, hB⟩
      replace hS := hS.next hB
      have hrow0 := Lib.hid (hrow0.out.below hB)
      clear hB
      obtain ⟨fp0, fp1, fp2, fp3, fp4, fp5, fp6, _⟩ := hS.box
      obtain ⟨fx0, fy0, _, _⟩ := fp0.cells
      obtain ⟨fx1, fy1, _, _⟩ := fp1.cells
      obtain ⟨fx2, fy2, _, _⟩ := fp2.cells
      obtain ⟨fx3, fy3, _, _⟩ := fp3.cells
      obtain ⟨fx4, fy4, _, _⟩ := fp4.cells
      obtain ⟨fx5, fy5, _, _⟩ := fp5.cells
      obtain ⟨fx6, fy6, _, _⟩ := fp6.cells
      go_wp2_with fail
      clear fp0 fx0 fy0 fp1 fx1 fy1 fp2 fx2 fy2 fp3 fx3 fy3 fp4 fx4 fy4 fp5 fx5 fy5 fp6 fx6 fy6
      refine Calls.mono (fCompare_v (c := 0) _ hS.g (HIT.out.val) (HIT.out.val) (by unfold cmpP; exact cmp3_eq rfl)) ?_
      rintro _ w10 ⟨rfl, hB⟩
      replace hS := hS.next hB
      have hrow0 := Lib.hid (hrow0.out.below hB)
      clear hB
      obtain ⟨fp0, fp1, fp2, fp3, fp4, fp5, fp6, _⟩ := hS.box
      obtain ⟨fx0, fy0, _, _⟩ := fp0.cells
      obtain ⟨fx1, fy1, _, _⟩ := fp1.cells
      obtain ⟨fx2, fy2, _, _⟩ := fp2.cells
      obtain ⟨fx3, fy3, _, _⟩ := fp3.cells
      obtain ⟨fx4, fy4, _, _⟩ := fp4.cells
      obtain ⟨fx5, fy5, _, _⟩ := fp5.cells
      obtain ⟨fx6, fy6, _, _⟩ := fp6.cells
      go_wp2_with fail
      go_roundw
      case rel => exact ⟨k + 1, by omega, by simp, hS.drop.drop, hrow0.out⟩
      case measure => simp [intOf]; omega
    · obtain rfl : k = 7 := by omega
      clear hrow
      go_upto_region 13 with fail
      obtain ⟨fp0, fp1, fp2, fp3, fp4, _⟩ := hS.box
      obtain ⟨fx0, fy0, _, _⟩ := fp0.cells
      obtain ⟨fx1, fy1, _, _⟩ := fp1.cells
      obtain ⟨fx2, fy2, _, _⟩ := fp2.cells
      obtain ⟨fx3, fy3, _, _⟩ := fp3.cells
      obtain ⟨fx4, fy4, _, _⟩ := fp4.cells
      have hgu := frac_guards
      try go_upto_region 13 with fail
      have HS := Lib.hid hS
      clear hS
      go_cut [4] (fun s4 wx => s4 = .bool true ∧ StL w wx [(b3, qu, qv), (b0_0, (cS (low x).1), (cD (low x).2)), (b0_1, (cS (low y).1), (cD (low y).2)), (w.heap.size + 1, gn, gd), (w.heap.size, fn, fd)])
      case first =>
        go_region_held3 (fun w' => w'.cell? ⟨b3, 0, none⟩ = some (.string qu) ∧ w'.cell? ⟨b3, 1, none⟩ = some (.string qv) ∧ w'.cell? ⟨b0_0, 0, none⟩ = some (.string (cS (low x).1)) ∧ w'.cell? ⟨b0_0, 1, none⟩ = some (.string (cD (low x).2)) ∧ w'.cell? ⟨b0_1, 0, none⟩ = some (.string (cS (low y).1)) ∧ w'.cell? ⟨b0_1, 1, none⟩ = some (.string (cD (low y).2)) ∧ w'.cell? ⟨w.heap.size + 1, 0, none⟩ = some (.string gn) ∧ w'.cell? ⟨w.heap.size + 1, 1, none⟩ = some (.string gd) ∧ w'.cell? ⟨w.heap.size, 0, none⟩ = some (.string fn) ∧ w'.cell? ⟨w.heap.size, 1, none⟩ = some (.string fd))
          (go_keep)
          (first
        | (go_at_call 16;
             (first
               | (with_reducible refine Calls.mono (fCompare_v (c := c) _ (by first | exact HS.out.g | exact HS.out.drew.g | exact (HS.out.drewN _).g) (Hf.arg (by decide)) (Hg.arg (by decide)) HC.out) ?_));
             (rintro e WX ⟨rfl, hB1⟩);
             (have HS2 : StL w WX [(b3, qu, qv), (b0_0, (cS (low x).1), (cD (low x).2)), (b0_1, (cS (low y).1), (cD (low y).2)), (w.heap.size + 1, gn, gd), (w.heap.size, fn, fd)] := (by first | exact HS.out.next hB1 | exact HS.out.next1 hB1 | exact HS.out.nextD hB1));
             (replace HS := Lib.hid HS2);
             (clear hB1 HS2);
             (obtain ⟨fp0, fp1, fp2, fp3, fp4, _⟩ := HS.out.box);
             (obtain ⟨fx0, fy0, _, _⟩ := fp0.cells);
             (obtain ⟨fx1, fy1, _, _⟩ := fp1.cells);
             (obtain ⟨fx2, fy2, _, _⟩ := fp2.cells);
             (obtain ⟨fx3, fy3, _, _⟩ := fp3.cells);
             (obtain ⟨fx4, fy4, _, _⟩ := fp4.cells))
        | (go_at_call 23;
             (first
               | (with_reducible refine Calls.mono (Rets.call HK.out _ (by first | exact HS.out.g | exact HS.out.drew.g | exact (HS.out.drewN _).g)) ?_));
             (rintro e WX ⟨rfl, hB1⟩);
             (have HS2 : StL w WX [(b3, qu, qv), (b0_0, (cS (low x).1), (cD (low x).2)), (b0_1, (cS (low y).1), (cD (low y).2)), (w.heap.size + 1, gn, gd), (w.heap.size, fn, fd)] := (by first | exact HS.out.next hB1 | exact HS.out.next1 hB1 | exact HS.out.nextD hB1));
             (replace HS := Lib.hid HS2);
             (clear hB1 HS2);
             (obtain ⟨fp0, fp1, fp2, fp3, fp4, _⟩ := HS.out.box);
             (obtain ⟨fx0, fy0, _, _⟩ := fp0.cells);
             (obtain ⟨fx1, fy1, _, _⟩ := fp1.cells);
             (obtain ⟨fx2, fy2, _, _⟩ := fp2.cells);
             (obtain ⟨fx3, fy3, _, _⟩ := fp3.cells);
             (obtain ⟨fx4, fy4, _, _⟩ := fp4.cells))
        | (go_at_call 10;
             (first
               | (with_reducible refine Calls.mono (fawake_any _ (by first | exact HS.out.g | exact HS.out.drew.g | exact (HS.out.drewN _).g)) ?_));
             (rintro e WX ⟨rfl, hB1⟩);
             (have HS2 : StL w WX [(b3, qu, qv), (b0_0, (cS (low x).1), (cD (low x).2)), (b0_1, (cS (low y).1), (cD (low y).2)), (w.heap.size + 1, gn, gd), (w.heap.size, fn, fd)] := (by first | exact HS.out.next hB1 | exact HS.out.next1 hB1 | exact HS.out.nextD hB1));
             (replace HS := Lib.hid HS2);
             (clear hB1 HS2);
             (obtain ⟨fp0, fp1, fp2, fp3, fp4, _⟩ := HS.out.box);
             (obtain ⟨fx0, fy0, _, _⟩ := fp0.cells);
             (obtain ⟨fx1, fy1, _, _⟩ := fp1.cells);
             (obtain ⟨fx2, fy2, _, _⟩ := fp2.cells);
             (obtain ⟨fx3, fy3, _, _⟩ := fp3.cells);
             (obtain ⟨fx4, fy4, _, _⟩ := fp4.cells)))
        all_goals go_wp2_with fail
        all_goals go_meet
        all_goals exact ⟨rfl, (by first | exact HS.out | exact HS.out.drew | exact HS.out.drewN _)⟩
      clear HS
      clear fp0 fx0 fy0 fp1 fx1 fy1 fp2 fx2 fy2 fp3 fx3 fy3 fp4 fx4 fy4
      obtain ⟨rfl, hS⟩ := hcut
      obtain ⟨w4, hw⟩ : ∃ W, W = wc := ⟨_, rfl⟩
      rw [← hw] at hS
      rw [← hw]
      clear hw
      go_wp2_with fail
      go_ret
      exact ⟨rfl, hS.below⟩

set_option maxRecDepth 100000 in
set_option maxHeartbeats 16000000 in
theorem fcanon_long (fn fd gn gd : ByteArray) (w : World) (hG : Ground w) (hl : flong 60 [(fn, fd), (gn, gd)] = true) :
    Calls Tryd.prog 6 #[.agg #[.string fn, .string fd], .agg #[.string gn, .string gd]] w fun e w' => e = .returned (.bool true) ∧ Below w.heap.size w w' := by
  have HL := Lib.hid hl
  clear hl
  obtain ⟨W0, hW0⟩ : ∃ W0, W0 = (w.alloc (.cells #[.string fn, .string fd] 24)).alloc (.cells #[.string gn, .string gd] 24) := ⟨_, rfl⟩
  have hS : StL w W0 [(w.heap.size + 1, gn, gd), (w.heap.size, fn, fd)] := by rw [hW0]; exact StL.two hG _ _ _ _
  go_enter Tryd.func6, Tryd.ntmps6
  go_upto_region 1 with fail
  rw [← hW0]
  clear hW0
  obtain ⟨fp0, fp1, _⟩ := hS.box
  obtain ⟨fx0, fy0, _, _⟩ := fp0.cells
  obtain ⟨fx1, fy1, _, _⟩ := fp1.cells
  go_wp2_with fail
  obtain ⟨W1, hW1⟩ : ∃ W1, W1 = W0.alloc (.cells #[.string fn, .string fd, .string gn, .string gd] 24) := ⟨_, rfl⟩
  have hc0 : ∀ i, i < 2 → W1.cell? ⟨W0.heap.size, i * 2, none⟩ = some (.string ([(fn, fd), (gn, gd)].getD i (⟨#[]⟩, ⟨#[]⟩)).1) ∧ W1.cell? ⟨W0.heap.size, i * 2 + 1, none⟩ = some (.string ([(fn, fd), (gn, gd)].getD i (⟨#[]⟩, ⟨#[]⟩)).2) := by rw [hW1]; exact fgreat_cells W0 [(fn, fd), (gn, gd)]
  have hS1 : StL w W1 [(w.heap.size + 1, gn, gd), (w.heap.size, fn, fd)] := by rw [hW1]; exact hS.other _
  rw [← hW1]
  clear fp0 fx0 fy0 fp1 fx1 fy1
  clear hW1 hS
  have hS := hS1
  clear hS1
  refine (rGreat_any W1 W0.heap.size 2 [(fn, fd), (gn, gd)] rfl (by decide) hc0).mono ?_
  rintro _ _ ⟨rfl, rfl⟩
  clear hc0
  rw [HL.out]
  obtain ⟨fp0, fp1, _⟩ := hS.box
  obtain ⟨fx0, fy0, _, _⟩ := fp0.cells
  obtain ⟨fx1, fy1, _, _⟩ := fp1.cells
  go_wp2_with fail
  clear fp0 fx0 fy0 fp1 fx1 fy1
  refine Calls.mono (fawake_any _ hS.g) ?_
  rintro _ w1 ⟨rfl, hB⟩
  replace hS := hS.next hB
  clear hB
  obtain ⟨fp0, fp1, _⟩ := hS.box
  obtain ⟨fx0, fy0, _, _⟩ := fp0.cells
  obtain ⟨fx1, fy1, _, _⟩ := fp1.cells
  go_wp2_with fail
  go_ret
  exact ⟨rfl, hS.below⟩

theorem fcanon_any (fn fd gn gd : ByteArray) (w : World) (hG : Ground w) :
    Calls Tryd.prog 6 #[.agg #[.string fn, .string fd], .agg #[.string gn, .string gd]] w fun e w' => e = .returned (.bool true) ∧ Below w.heap.size w w' := by
  by_cases hf : fn.size ≤ 60 ∧ fd.size ≤ 60
  · by_cases hg : gn.size ≤ 60 ∧ gd.size ≤ 60
    · exact fcanon_in fn fd gn gd w hG hf.1 hf.2 hg.1 hg.2
    · exact fcanon_long fn fd gn gd w hG (flong_true (f := (gn, gd)) (by simp) (by show 60 < gn.size ∨ 60 < gd.size; omega))
  · exact fcanon_long fn fd gn gd w hG (flong_true (f := (fn, fd)) (by simp) (by show 60 < fn.size ∨ 60 < fd.size; omega))

end Go.Proofs.YtldohkfomdcpoaaDoor
