/- The program's layer 2: apply: the walks. -/
import Derived.Test.YtldohkfomdcpoaaDoorFwc
import Derived.Deep.Cut
import Derived.Laws.EntriesVeiled
namespace Go.Proofs.YtldohkfomdcpoaaDoor
open Go.RowKit Fra

/-- the table of the operations lies in block b -/
def FunsAt (W : World) (b : Nat) (p q r s : Value) : Prop := W.heap[b]? = some (.cells #[p, q, r, s] 83 (0, 0))
theorem FunsAt.cells {W : World} {b : Nat} {p q r s : Value} (h : FunsAt W b p q r s) : W.cell? ⟨b, 0, none⟩ = some p ∧ W.cell? ⟨b, 1, none⟩ = some q ∧ W.cell? ⟨b, 2, none⟩ = some r ∧ W.cell? ⟨b, 3, none⟩ = some s ∧
    W.frozen? ⟨b, 0, none⟩ = false ∧ W.frozen? ⟨b, 1, none⟩ = false ∧ W.frozen? ⟨b, 2, none⟩ = false ∧ W.frozen? ⟨b, 3, none⟩ = false := by
  unfold FunsAt at h
  exact ⟨by rw [cell_of_row W b 0 _ _ _ h]; rfl, by rw [cell_of_row W b 1 _ _ _ h]; rfl, by rw [cell_of_row W b 2 _ _ _ h]; rfl, by rw [cell_of_row W b 3 _ _ _ h]; rfl, frozen_of_row W b 0 _ _ h, frozen_of_row W b 1 _ _ h, frozen_of_row W b 2 _ _ h, frozen_of_row W b 3 _ _ h⟩
theorem FunsAt.made (W : World) (p q r s : Value) : FunsAt (W.alloc (.cells #[p, q, r, s] 83)) W.heap.size p q r s := heap_alloc_new W _

/-- the boxes of apply and its table of operations, behind some calls -/
structure StA (w W : World) (N : Nat) (a b c d : ByteArray) : Prop where
  st : St2 w W 24 54 a b c d
  tab : FunsAt W N (.func (.func 50) #[] #[]) (.func (.func 51) #[] #[]) (.func (.func 52) #[] #[]) (.func (.func 53) #[] #[])
theorem FunsAt.below {W W' : World} {b : Nat} {p q r s : Value} (h : FunsAt W b p q r s) (hb : Below W.heap.size W W') : FunsAt W' b p q r s := by
  unfold FunsAt at *
  have hl : b < W.heap.size := by
    rcases Nat.lt_or_ge b W.heap.size with h' | h'
    · exact h'
    · rw [Array.getElem?_eq_none h'] at h; simp at h
  rw [hb.block b hl]; exact h
theorem StA.next {w W W1 : World} {N : Nat} {a b c d : ByteArray} (h : StA w W N a b c d) (hb : Below W.heap.size W W1) : StA w W1 N a b c d := ⟨h.st.next hb, h.tab.below hb⟩
theorem StA.drewN {w W : World} {N : Nat} {a b c d : ByteArray} (h : StA w W N a b c d) (q : Nat) : StA w (W.drewN q) N a b c d := ⟨h.st.drewN q, h.tab⟩
theorem StA.drew {w W : World} {N : Nat} {a b c d : ByteArray} (h : StA w W N a b c d) : StA w W.drew N a b c d := h.drewN 1
theorem StA.next1 {w W W1 : World} {N : Nat} {a b c d : ByteArray} (h : StA w W N a b c d) (hb : Below W.drew.heap.size W.drew W1) : StA w W1 N a b c d := h.drew.next hb
theorem StA.nextD {w W W1 : World} {N q : Nat} {a b c d : ByteArray} (h : StA w W N a b c d) (hb : Below (W.drewN q).heap.size (W.drewN q) W1) : StA w W1 N a b c d := (h.drewN q).next hb
theorem StA.made {w W0 : World} {a b c d : ByteArray} (h : St2 w W0 24 54 a b c d) :
    StA w (W0.alloc (.cells #[.func (.func 50) #[] #[], .func (.func 51) #[] #[], .func (.func 52) #[] #[], .func (.func 53) #[] #[]] 83)) W0.heap.size a b c d :=
  ⟨h.next ((Below.refl _ _).alloc (Nat.le_refl _) _), FunsAt.made _ _ _ _ _⟩
theorem StA.cells {w W : World} {N : Nat} {a b c d : ByteArray} (h : StA w W N a b c d) :
    (W.cell? ⟨w.heap.size, 0, none⟩ = some (.string a) ∧ W.cell? ⟨w.heap.size, 1, none⟩ = some (.string b) ∧ W.cell? ⟨w.heap.size + 1, 0, none⟩ = some (.string c) ∧ W.cell? ⟨w.heap.size + 1, 1, none⟩ = some (.string d) ∧
    W.cell? ⟨w.heap.size + 1 + 1, 0, none⟩ = some (.string ⟨#[]⟩) ∧ W.cell? ⟨w.heap.size + 1 + 1, 1, none⟩ = some (.string ⟨#[]⟩) ∧ W.frozen? ⟨w.heap.size + 1 + 1, 0, none⟩ = false ∧ W.frozen? ⟨w.heap.size + 1 + 1, 1, none⟩ = false) ∧
    W.cell? ⟨N, 0, none⟩ = some (.func (.func 50) #[] #[]) ∧ W.cell? ⟨N, 1, none⟩ = some (.func (.func 51) #[] #[]) ∧ W.cell? ⟨N, 2, none⟩ = some (.func (.func 52) #[] #[]) ∧ W.cell? ⟨N, 3, none⟩ = some (.func (.func 53) #[] #[]) :=
  ⟨h.st.cells, h.tab.cells.1, h.tab.cells.2.1, h.tab.cells.2.2.1, h.tab.cells.2.2.2.1⟩

set_option maxRecDepth 100000 in
set_option maxHeartbeats 4000000 in
theorem fApplyAdd_any (a b c d : ByteArray) (w : World) (hG : Ground w) (ha : a.size ≤ 100000) (hb : b.size ≤ 100000) (hc : c.size ≤ 100000) (hd : d.size ≤ 100000) :
    Calls Tryd.prog 31 #[.int .i64 0, .func (.func 32) #[] #[], .agg #[.string a, .string b], .agg #[.string c, .string d]] w fun e w' => e = .returned (.agg #[.string (cS ((raw a b).1 * (raw c d).2 + (raw c d).1 * (raw a b).2)), .string (cS ((raw a b).2 * (raw c d).2))]) ∧ Below w.heap.size w w' := by
  obtain ⟨W0, hW0⟩ : ∃ W0, W0 = ((w.alloc (.cells #[.string a, .string b] 24)).alloc (.cells #[.string c, .string d] 24)).alloc (.cells #[.string ⟨#[]⟩, .string ⟨#[]⟩] 54) := ⟨_, rfl⟩
  have hS0 : St2 w W0 24 54 a b c d := by rw [hW0]; exact St2.made hG _ _ _ _ _ _
  go_enter Tryd.func31, Tryd.ntmps31
  go_upto_region 1 with fail
  rw [← hW0]
  have hn2 : w.heap.size + 1 + 1 ≠ W0.heap.size := by rw [hW0]; simp
  clear hW0
  go_upto_region 2 with fail
  have hS := StA.made hS0
  clear hS0
  obtain ⟨N, hN⟩ : ∃ N, N = W0.heap.size := ⟨_, rfl⟩
  rw [← hN] at hS hn2
  rw [← hN]
  obtain ⟨WW, hWW⟩ : ∃ WW, WW = W0.alloc (.cells #[.func (.func 50) #[] #[], .func (.func 51) #[] #[], .func (.func 52) #[] #[], .func (.func 53) #[] #[]] 83) := ⟨_, rfl⟩
  rw [← hWW] at hS
  rw [← hWW]
  clear hN hWW
  obtain ⟨⟨c0, c1, c2, c3, c4, c5, c6, c7⟩, g0, g1, g2, g3⟩ := hS.cells
  have hn1 : w.heap.size + 1 + 1 ≠ w.heap.size := by omega
  have HS := Lib.hid hS
  clear hS hG
  go_region_held3 (fun w' => w'.cell? ⟨w.heap.size, 0, none⟩ = some (.string a) ∧ w'.cell? ⟨w.heap.size, 1, none⟩ = some (.string b) ∧ w'.cell? ⟨w.heap.size + 1, 0, none⟩ = some (.string c) ∧ w'.cell? ⟨w.heap.size + 1, 1, none⟩ = some (.string d) ∧ w'.cell? ⟨N, 0, none⟩ = some (.func (.func 50) #[] #[]))
    (go_keep)
    (first
    | (go_at_call 32;
         (with_reducible refine Calls.mono (fValue_any a b _ 100001 (by omega) (by omega) (by decide)) ?_);
         (rintro e W1 ⟨p1, q1, rfl, e1, e2, e3, e4, hB1⟩);
         (have P1 := Lib.hid (And.intro (And.intro e1 e2) (And.intro e3 e4)));
         (have HS2 : StA w W1 N a b c d := (by first | exact HS.out.next hB1 | exact HS.out.next1 hB1 | exact HS.out.nextD hB1));
         (replace HS := Lib.hid HS2);
         (clear hB1 HS2 e1 e2 e3 e4);
         (obtain ⟨⟨c0, c1, c2, c3, c4, c5, c6, c7⟩, g0, g1, g2, g3⟩ := HS.out.cells))
    | (go_at_call 32;
         (with_reducible refine Calls.mono (fValue_any c d _ 100001 (by omega) (by omega) (by decide)) ?_);
         (rintro e W1 ⟨p2, q2, rfl, e1, e2, e3, e4, hB1⟩);
         (have P2 := Lib.hid (And.intro (And.intro e1 e2) (And.intro e3 e4)));
         (have HS2 : StA w W1 N a b c d := (by first | exact HS.out.next hB1 | exact HS.out.next1 hB1 | exact HS.out.nextD hB1));
         (replace HS := Lib.hid HS2);
         (clear hB1 HS2 e1 e2 e3 e4);
         (obtain ⟨⟨c0, c1, c2, c3, c4, c5, c6, c7⟩, g0, g1, g2, g3⟩ := HS.out.cells))
    | (go_at_call 50;
         (with_reducible refine Calls.mono (rAddRatio_v (a := p1) (b := q1) (c := p2) (d := q2) (x1 := (raw a b).1) (x2 := (raw a b).2) (y1 := (raw c d).1) (y2 := (raw c d).2) _ (by first | exact HS.out.st.g | exact HS.out.drew.st.g | exact (HS.out.drewN _).st.g) (by have := P1.out.2.1; omega) (by have := P1.out.2.2; omega) (by have := P2.out.2.1; omega) (by have := P2.out.2.2; omega) P1.out.1.1 P1.out.1.2 P2.out.1.1 P2.out.1.2) ?_);
         (rintro e W1 ⟨rfl, hB1⟩);
         (have HS2 : StA w W1 N a b c d := (by first | exact HS.out.next hB1 | exact HS.out.next1 hB1 | exact HS.out.nextD hB1));
         (replace HS := Lib.hid HS2);
         (clear hB1 HS2);
         (obtain ⟨⟨c0, c1, c2, c3, c4, c5, c6, c7⟩, g0, g1, g2, g3⟩ := HS.out.cells)))
  all_goals go_wp2_with fail
  all_goals obtain ⟨k0, k1, _, _⟩ := (HS.out.st.r.put (cS ((raw a b).1 * (raw c d).2 + (raw c d).1 * (raw a b).2)) (cS ((raw a b).2 * (raw c d).2))).cells
  all_goals exact bodyPost_ret (v := .agg #[.string (cS ((raw a b).1 * (raw c d).2 + (raw c d).1 * (raw a b).2)), .string (cS ((raw a b).2 * (raw c d).2))]) (by simp [results, Tryd.results31, go_sem, k0, k1]) rfl ⟨rfl, below_put HS.out.st.below (by omega) _ _⟩

set_option maxRecDepth 100000 in
set_option maxHeartbeats 4000000 in
theorem fApplySub_any (a b c d : ByteArray) (w : World) (hG : Ground w) (ha : a.size ≤ 100000) (hb : b.size ≤ 100000) (hc : c.size ≤ 100000) (hd : d.size ≤ 100000) :
    Calls Tryd.prog 31 #[.int .i64 1, .func (.func 32) #[] #[], .agg #[.string a, .string b], .agg #[.string c, .string d]] w fun e w' => e = .returned (.agg #[.string (cS ((raw a b).1 * (raw c d).2 + -(raw c d).1 * (raw a b).2)), .string (cS ((raw a b).2 * (raw c d).2))]) ∧ Below w.heap.size w w' := by
  obtain ⟨W0, hW0⟩ : ∃ W0, W0 = ((w.alloc (.cells #[.string a, .string b] 24)).alloc (.cells #[.string c, .string d] 24)).alloc (.cells #[.string ⟨#[]⟩, .string ⟨#[]⟩] 54) := ⟨_, rfl⟩
  have hS0 : St2 w W0 24 54 a b c d := by rw [hW0]; exact St2.made hG _ _ _ _ _ _
  go_enter Tryd.func31, Tryd.ntmps31
  go_upto_region 1 with fail
  rw [← hW0]
  have hn2 : w.heap.size + 1 + 1 ≠ W0.heap.size := by rw [hW0]; simp
  clear hW0
  go_upto_region 2 with fail
  have hS := StA.made hS0
  clear hS0
  obtain ⟨N, hN⟩ : ∃ N, N = W0.heap.size := ⟨_, rfl⟩
  rw [← hN] at hS hn2
  rw [← hN]
  obtain ⟨WW, hWW⟩ : ∃ WW, WW = W0.alloc (.cells #[.func (.func 50) #[] #[], .func (.func 51) #[] #[], .func (.func 52) #[] #[], .func (.func 53) #[] #[]] 83) := ⟨_, rfl⟩
  rw [← hWW] at hS
  rw [← hWW]
  clear hN hWW
  obtain ⟨⟨c0, c1, c2, c3, c4, c5, c6, c7⟩, g0, g1, g2, g3⟩ := hS.cells
  have hn1 : w.heap.size + 1 + 1 ≠ w.heap.size := by omega
  have HS := Lib.hid hS
  clear hS hG
  go_region_held3 (fun w' => w'.cell? ⟨w.heap.size, 0, none⟩ = some (.string a) ∧ w'.cell? ⟨w.heap.size, 1, none⟩ = some (.string b) ∧ w'.cell? ⟨w.heap.size + 1, 0, none⟩ = some (.string c) ∧ w'.cell? ⟨w.heap.size + 1, 1, none⟩ = some (.string d) ∧ w'.cell? ⟨N, 1, none⟩ = some (.func (.func 51) #[] #[]))
    (go_keep)
    (first
    | (go_at_call 32;
         (with_reducible refine Calls.mono (fValue_any a b _ 100001 (by omega) (by omega) (by decide)) ?_);
         (rintro e W1 ⟨p1, q1, rfl, e1, e2, e3, e4, hB1⟩);
         (have P1 := Lib.hid (And.intro (And.intro e1 e2) (And.intro e3 e4)));
         (have HS2 : StA w W1 N a b c d := (by first | exact HS.out.next hB1 | exact HS.out.next1 hB1 | exact HS.out.nextD hB1));
         (replace HS := Lib.hid HS2);
         (clear hB1 HS2 e1 e2 e3 e4);
         (obtain ⟨⟨c0, c1, c2, c3, c4, c5, c6, c7⟩, g0, g1, g2, g3⟩ := HS.out.cells))
    | (go_at_call 32;
         (with_reducible refine Calls.mono (fValue_any c d _ 100001 (by omega) (by omega) (by decide)) ?_);
         (rintro e W1 ⟨p2, q2, rfl, e1, e2, e3, e4, hB1⟩);
         (have P2 := Lib.hid (And.intro (And.intro e1 e2) (And.intro e3 e4)));
         (have HS2 : StA w W1 N a b c d := (by first | exact HS.out.next hB1 | exact HS.out.next1 hB1 | exact HS.out.nextD hB1));
         (replace HS := Lib.hid HS2);
         (clear hB1 HS2 e1 e2 e3 e4);
         (obtain ⟨⟨c0, c1, c2, c3, c4, c5, c6, c7⟩, g0, g1, g2, g3⟩ := HS.out.cells))
    | (go_at_call 51;
         (with_reducible refine Calls.mono (rSubRatio_v (a := p1) (b := q1) (c := p2) (d := q2) (x1 := (raw a b).1) (x2 := (raw a b).2) (y1 := (raw c d).1) (y2 := (raw c d).2) _ (by first | exact HS.out.st.g | exact HS.out.drew.st.g | exact (HS.out.drewN _).st.g) (by have := P1.out.2.1; omega) (by have := P1.out.2.2; omega) (by have := P2.out.2.1; omega) (by have := P2.out.2.2; omega) P1.out.1.1 P1.out.1.2 P2.out.1.1 P2.out.1.2) ?_);
         (rintro e W1 ⟨rfl, hB1⟩);
         (have HS2 : StA w W1 N a b c d := (by first | exact HS.out.next hB1 | exact HS.out.next1 hB1 | exact HS.out.nextD hB1));
         (replace HS := Lib.hid HS2);
         (clear hB1 HS2);
         (obtain ⟨⟨c0, c1, c2, c3, c4, c5, c6, c7⟩, g0, g1, g2, g3⟩ := HS.out.cells)))
  all_goals go_wp2_with fail
  all_goals obtain ⟨k0, k1, _, _⟩ := (HS.out.st.r.put (cS ((raw a b).1 * (raw c d).2 + -(raw c d).1 * (raw a b).2)) (cS ((raw a b).2 * (raw c d).2))).cells
  all_goals exact bodyPost_ret (v := .agg #[.string (cS ((raw a b).1 * (raw c d).2 + -(raw c d).1 * (raw a b).2)), .string (cS ((raw a b).2 * (raw c d).2))]) (by simp [results, Tryd.results31, go_sem, k0, k1]) rfl ⟨rfl, below_put HS.out.st.below (by omega) _ _⟩

set_option maxRecDepth 100000 in
set_option maxHeartbeats 4000000 in
theorem fApplyMul_any (a b c d : ByteArray) (w : World) (hG : Ground w) (ha : a.size ≤ 100000) (hb : b.size ≤ 100000) (hc : c.size ≤ 100000) (hd : d.size ≤ 100000) :
    Calls Tryd.prog 31 #[.int .i64 2, .func (.func 32) #[] #[], .agg #[.string a, .string b], .agg #[.string c, .string d]] w fun e w' => e = .returned (.agg #[.string (cS ((raw a b).1 * (raw c d).1)), .string (cS ((raw a b).2 * (raw c d).2))]) ∧ Below w.heap.size w w' := by
  obtain ⟨W0, hW0⟩ : ∃ W0, W0 = ((w.alloc (.cells #[.string a, .string b] 24)).alloc (.cells #[.string c, .string d] 24)).alloc (.cells #[.string ⟨#[]⟩, .string ⟨#[]⟩] 54) := ⟨_, rfl⟩
  have hS0 : St2 w W0 24 54 a b c d := by rw [hW0]; exact St2.made hG _ _ _ _ _ _
  go_enter Tryd.func31, Tryd.ntmps31
  go_upto_region 1 with fail
  rw [← hW0]
  have hn2 : w.heap.size + 1 + 1 ≠ W0.heap.size := by rw [hW0]; simp
  clear hW0
  go_upto_region 2 with fail
  have hS := StA.made hS0
  clear hS0
  obtain ⟨N, hN⟩ : ∃ N, N = W0.heap.size := ⟨_, rfl⟩
  rw [← hN] at hS hn2
  rw [← hN]
  obtain ⟨WW, hWW⟩ : ∃ WW, WW = W0.alloc (.cells #[.func (.func 50) #[] #[], .func (.func 51) #[] #[], .func (.func 52) #[] #[], .func (.func 53) #[] #[]] 83) := ⟨_, rfl⟩
  rw [← hWW] at hS
  rw [← hWW]
  clear hN hWW
  obtain ⟨⟨c0, c1, c2, c3, c4, c5, c6, c7⟩, g0, g1, g2, g3⟩ := hS.cells
  have hn1 : w.heap.size + 1 + 1 ≠ w.heap.size := by omega
  have HS := Lib.hid hS
  clear hS hG
  go_region_held3 (fun w' => w'.cell? ⟨w.heap.size, 0, none⟩ = some (.string a) ∧ w'.cell? ⟨w.heap.size, 1, none⟩ = some (.string b) ∧ w'.cell? ⟨w.heap.size + 1, 0, none⟩ = some (.string c) ∧ w'.cell? ⟨w.heap.size + 1, 1, none⟩ = some (.string d) ∧ w'.cell? ⟨N, 2, none⟩ = some (.func (.func 52) #[] #[]))
    (go_keep)
    (first
    | (go_at_call 32;
         (with_reducible refine Calls.mono (fValue_any a b _ 100001 (by omega) (by omega) (by decide)) ?_);
         (rintro e W1 ⟨p1, q1, rfl, e1, e2, e3, e4, hB1⟩);
         (have P1 := Lib.hid (And.intro (And.intro e1 e2) (And.intro e3 e4)));
         (have HS2 : StA w W1 N a b c d := (by first | exact HS.out.next hB1 | exact HS.out.next1 hB1 | exact HS.out.nextD hB1));
         (replace HS := Lib.hid HS2);
         (clear hB1 HS2 e1 e2 e3 e4);
         (obtain ⟨⟨c0, c1, c2, c3, c4, c5, c6, c7⟩, g0, g1, g2, g3⟩ := HS.out.cells))
    | (go_at_call 32;
         (with_reducible refine Calls.mono (fValue_any c d _ 100001 (by omega) (by omega) (by decide)) ?_);
         (rintro e W1 ⟨p2, q2, rfl, e1, e2, e3, e4, hB1⟩);
         (have P2 := Lib.hid (And.intro (And.intro e1 e2) (And.intro e3 e4)));
         (have HS2 : StA w W1 N a b c d := (by first | exact HS.out.next hB1 | exact HS.out.next1 hB1 | exact HS.out.nextD hB1));
         (replace HS := Lib.hid HS2);
         (clear hB1 HS2 e1 e2 e3 e4);
         (obtain ⟨⟨c0, c1, c2, c3, c4, c5, c6, c7⟩, g0, g1, g2, g3⟩ := HS.out.cells))
    | (go_at_call 52;
         (with_reducible refine Calls.mono (rMulRatio_v (a := p1) (b := q1) (c := p2) (d := q2) (x1 := (raw a b).1) (x2 := (raw a b).2) (y1 := (raw c d).1) (y2 := (raw c d).2) _ (by first | exact HS.out.st.g | exact HS.out.drew.st.g | exact (HS.out.drewN _).st.g) (by have := P1.out.2.1; omega) (by have := P1.out.2.2; omega) (by have := P2.out.2.1; omega) (by have := P2.out.2.2; omega) P1.out.1.1 P1.out.1.2 P2.out.1.1 P2.out.1.2) ?_);
         (rintro e W1 ⟨rfl, hB1⟩);
         (have HS2 : StA w W1 N a b c d := (by first | exact HS.out.next hB1 | exact HS.out.next1 hB1 | exact HS.out.nextD hB1));
         (replace HS := Lib.hid HS2);
         (clear hB1 HS2);
         (obtain ⟨⟨c0, c1, c2, c3, c4, c5, c6, c7⟩, g0, g1, g2, g3⟩ := HS.out.cells)))
  all_goals go_wp2_with fail
  all_goals obtain ⟨k0, k1, _, _⟩ := (HS.out.st.r.put (cS ((raw a b).1 * (raw c d).1)) (cS ((raw a b).2 * (raw c d).2))).cells
  all_goals exact bodyPost_ret (v := .agg #[.string (cS ((raw a b).1 * (raw c d).1)), .string (cS ((raw a b).2 * (raw c d).2))]) (by simp [results, Tryd.results31, go_sem, k0, k1]) rfl ⟨rfl, below_put HS.out.st.below (by omega) _ _⟩

set_option maxRecDepth 100000 in
set_option maxHeartbeats 4000000 in
theorem fApplyQuo_any (a b c d : ByteArray) (w : World) (hG : Ground w) (ha : a.size ≤ 100000) (hb : b.size ≤ 100000) (hc : c.size ≤ 100000) (hd : d.size ≤ 100000) (h0 : (raw c d).1 ≠ 0) :
    Calls Tryd.prog 31 #[.int .i64 3, .func (.func 32) #[] #[], .agg #[.string a, .string b], .agg #[.string c, .string d]] w fun e w' => e = .returned (.agg #[.string (cS ((raw a b).1 * (rawP (raw c d).2 (raw c d).1).1)), .string (cS ((raw a b).2 * (rawP (raw c d).2 (raw c d).1).2))]) ∧ Below w.heap.size w w' := by
  obtain ⟨W0, hW0⟩ : ∃ W0, W0 = ((w.alloc (.cells #[.string a, .string b] 24)).alloc (.cells #[.string c, .string d] 24)).alloc (.cells #[.string ⟨#[]⟩, .string ⟨#[]⟩] 54) := ⟨_, rfl⟩
  have hS0 : St2 w W0 24 54 a b c d := by rw [hW0]; exact St2.made hG _ _ _ _ _ _
  go_enter Tryd.func31, Tryd.ntmps31
  go_upto_region 1 with fail
  rw [← hW0]
  have hn2 : w.heap.size + 1 + 1 ≠ W0.heap.size := by rw [hW0]; simp
  clear hW0
  go_upto_region 2 with fail
  have hS := StA.made hS0
  clear hS0
  obtain ⟨N, hN⟩ : ∃ N, N = W0.heap.size := ⟨_, rfl⟩
  rw [← hN] at hS hn2
  rw [← hN]
  obtain ⟨WW, hWW⟩ : ∃ WW, WW = W0.alloc (.cells #[.func (.func 50) #[] #[], .func (.func 51) #[] #[], .func (.func 52) #[] #[], .func (.func 53) #[] #[]] 83) := ⟨_, rfl⟩
  rw [← hWW] at hS
  rw [← hWW]
  clear hN hWW
  obtain ⟨⟨c0, c1, c2, c3, c4, c5, c6, c7⟩, g0, g1, g2, g3⟩ := hS.cells
  have hn1 : w.heap.size + 1 + 1 ≠ w.heap.size := by omega
  have HS := Lib.hid hS
  have H0 := Lib.hid h0
  clear hS hG
  go_region_held3 (fun w' => w'.cell? ⟨w.heap.size, 0, none⟩ = some (.string a) ∧ w'.cell? ⟨w.heap.size, 1, none⟩ = some (.string b) ∧ w'.cell? ⟨w.heap.size + 1, 0, none⟩ = some (.string c) ∧ w'.cell? ⟨w.heap.size + 1, 1, none⟩ = some (.string d) ∧ w'.cell? ⟨N, 3, none⟩ = some (.func (.func 53) #[] #[]))
    (go_keep)
    (first
    | (go_at_call 32;
         (with_reducible refine Calls.mono (fValue_any a b _ 100001 (by omega) (by omega) (by decide)) ?_);
         (rintro e W1 ⟨p1, q1, rfl, e1, e2, e3, e4, hB1⟩);
         (have P1 := Lib.hid (And.intro (And.intro e1 e2) (And.intro e3 e4)));
         (have HS2 : StA w W1 N a b c d := (by first | exact HS.out.next hB1 | exact HS.out.next1 hB1 | exact HS.out.nextD hB1));
         (replace HS := Lib.hid HS2);
         (clear hB1 HS2 e1 e2 e3 e4);
         (obtain ⟨⟨c0, c1, c2, c3, c4, c5, c6, c7⟩, g0, g1, g2, g3⟩ := HS.out.cells))
    | (go_at_call 32;
         (with_reducible refine Calls.mono (fValue_any c d _ 100001 (by omega) (by omega) (by decide)) ?_);
         (rintro e W1 ⟨p2, q2, rfl, e1, e2, e3, e4, hB1⟩);
         (have P2 := Lib.hid (And.intro (And.intro e1 e2) (And.intro e3 e4)));
         (have HS2 : StA w W1 N a b c d := (by first | exact HS.out.next hB1 | exact HS.out.next1 hB1 | exact HS.out.nextD hB1));
         (replace HS := Lib.hid HS2);
         (clear hB1 HS2 e1 e2 e3 e4);
         (obtain ⟨⟨c0, c1, c2, c3, c4, c5, c6, c7⟩, g0, g1, g2, g3⟩ := HS.out.cells))
    | (go_at_call 53;
         (with_reducible refine Calls.mono (rDivRatio_v (a := p1) (b := q1) (c := p2) (d := q2) (x1 := (raw a b).1) (x2 := (raw a b).2) (y1 := (raw c d).1) (y2 := (raw c d).2) _ (by first | exact HS.out.st.g | exact HS.out.drew.st.g | exact (HS.out.drewN _).st.g) (by have := P1.out.2.1; omega) (by have := P1.out.2.2; omega) (by have := P2.out.2.1; omega) (by have := P2.out.2.2; omega) P1.out.1.1 P1.out.1.2 P2.out.1.1 P2.out.1.2 H0.out) ?_);
         (rintro e W1 ⟨rfl, hB1⟩);
         (have HS2 : StA w W1 N a b c d := (by first | exact HS.out.next hB1 | exact HS.out.next1 hB1 | exact HS.out.nextD hB1));
         (replace HS := Lib.hid HS2);
         (clear hB1 HS2);
         (obtain ⟨⟨c0, c1, c2, c3, c4, c5, c6, c7⟩, g0, g1, g2, g3⟩ := HS.out.cells)))
  all_goals go_wp2_with fail
  all_goals obtain ⟨k0, k1, _, _⟩ := (HS.out.st.r.put (cS ((raw a b).1 * (rawP (raw c d).2 (raw c d).1).1)) (cS ((raw a b).2 * (rawP (raw c d).2 (raw c d).1).2))).cells
  all_goals exact bodyPost_ret (v := .agg #[.string (cS ((raw a b).1 * (rawP (raw c d).2 (raw c d).1).1)), .string (cS ((raw a b).2 * (rawP (raw c d).2 (raw c d).1).2))]) (by simp [results, Tryd.results31, go_sem, k0, k1]) rfl ⟨rfl, below_put HS.out.st.below (by omega) _ _⟩

end Go.Proofs.YtldohkfomdcpoaaDoor
