/- The program's layer 2: apply: the walks. -/
import Derived.Test.YthhihdihkddakaaGreatDoorMA
import Derived.Deep.Cut
import Derived.Laws.EntriesVeiled
namespace Go.Proofs.YthhihdihkddakaaGreatDoor
open Go.RowKit Fra

/-- the table of the operations lies in block b -/
def FunsAt (W : World) (b : Nat) (p q r s : Value) : Prop := W.heap[b]? = some (.cells #[p, q, r, s] 136 (0, 0))
theorem FunsAt.cells {W : World} {b : Nat} {p q r s : Value} (h : FunsAt W b p q r s) : W.cell? ⟨b, 0, none⟩ = some p ∧ W.cell? ⟨b, 1, none⟩ = some q ∧ W.cell? ⟨b, 2, none⟩ = some r ∧ W.cell? ⟨b, 3, none⟩ = some s ∧
    W.frozen? ⟨b, 0, none⟩ = false ∧ W.frozen? ⟨b, 1, none⟩ = false ∧ W.frozen? ⟨b, 2, none⟩ = false ∧ W.frozen? ⟨b, 3, none⟩ = false := by
  unfold FunsAt at h
  exact ⟨by rw [cell_of_row W b 0 _ _ _ h]; rfl, by rw [cell_of_row W b 1 _ _ _ h]; rfl, by rw [cell_of_row W b 2 _ _ _ h]; rfl, by rw [cell_of_row W b 3 _ _ _ h]; rfl, frozen_of_row W b 0 _ _ h, frozen_of_row W b 1 _ _ h, frozen_of_row W b 2 _ _ h, frozen_of_row W b 3 _ _ h⟩
theorem FunsAt.made (W : World) (p q r s : Value) : FunsAt (W.alloc (.cells #[p, q, r, s] 136)) W.heap.size p q r s := heap_alloc_new W _

/-- the boxes of apply and its table of operations, behind some calls -/
structure StA (w W : World) (N : Nat) (a b c d : ByteArray) : Prop where
  st : St2 w W 36 97 a b c d
  tab : FunsAt W N (.func (.func 142) #[] #[]) (.func (.func 143) #[] #[]) (.func (.func 144) #[] #[]) (.func (.func 145) #[] #[])
theorem FunsAt.below {W W' : World} {b : Nat} {p q r s : Value} (h : FunsAt W b p q r s) (hb : Below W.heap.size W W') : FunsAt W' b p q r s := by
  unfold FunsAt at *
  have hl : b < W.heap.size := by
    rcases Nat.lt_or_ge b W.heap.size with h' | h'
    · exact h'
    · rw [Array.getElem?_eq_none h'] at h; simp at h
  rw [hb.block b hl]; exact h
theorem StA.next {w W W1 : World} {N : Nat} {a b c d : ByteArray} (h : StA w W N a b c d) (hb : Below W.heap.size W W1) : StA w W1 N a b c d := ⟨h.st.next hb, h.tab.below hb⟩
theorem StA.drewN {w W : World} {N : Nat} {a b c d : ByteArray} (h : StA w W N a b c d) (q : Nat) : StA w (W.drewN q) N a b c d := ⟨h.st.drewN q, h.tab⟩
theorem StA.drew {w W : World} {N : Nat} {a b c d : ByteArray} (h : StA w W N a b c d) : StA w W.drew N a b c d := h.drewN 1
theorem StA.next1 {w W W1 : World} {N : Nat} {a b c d : ByteArray} (h : StA w W N a b c d) (hb : Below W.drew.heap.size W.drew W1) : StA w W1 N a b c d := h.drew.next hb
theorem StA.nextD {w W W1 : World} {N q : Nat} {a b c d : ByteArray} (h : StA w W N a b c d) (hb : Below (W.drewN q).heap.size (W.drewN q) W1) : StA w W1 N a b c d := (h.drewN q).next hb
theorem StA.made {w W0 : World} {a b c d : ByteArray} (h : St2 w W0 36 97 a b c d) :
    StA w (W0.alloc (.cells #[.func (.func 142) #[] #[], .func (.func 143) #[] #[], .func (.func 144) #[] #[], .func (.func 145) #[] #[]] 136)) W0.heap.size a b c d :=
  ⟨h.next ((Below.refl _ _).alloc (Nat.le_refl _) _), FunsAt.made _ _ _ _ _⟩
theorem StA.cells {w W : World} {N : Nat} {a b c d : ByteArray} (h : StA w W N a b c d) :
    (W.cell? ⟨w.heap.size, 0, none⟩ = some (.string a) ∧ W.cell? ⟨w.heap.size, 1, none⟩ = some (.string b) ∧ W.cell? ⟨w.heap.size + 1, 0, none⟩ = some (.string c) ∧ W.cell? ⟨w.heap.size + 1, 1, none⟩ = some (.string d) ∧
    W.cell? ⟨w.heap.size + 1 + 1, 0, none⟩ = some (.string ⟨#[]⟩) ∧ W.cell? ⟨w.heap.size + 1 + 1, 1, none⟩ = some (.string ⟨#[]⟩) ∧ W.frozen? ⟨w.heap.size + 1 + 1, 0, none⟩ = false ∧ W.frozen? ⟨w.heap.size + 1 + 1, 1, none⟩ = false) ∧
    W.cell? ⟨N, 0, none⟩ = some (.func (.func 142) #[] #[]) ∧ W.cell? ⟨N, 1, none⟩ = some (.func (.func 143) #[] #[]) ∧ W.cell? ⟨N, 2, none⟩ = some (.func (.func 144) #[] #[]) ∧ W.cell? ⟨N, 3, none⟩ = some (.func (.func 145) #[] #[]) :=
  ⟨h.st.cells, h.tab.cells.1, h.tab.cells.2.1, h.tab.cells.2.2.1, h.tab.cells.2.2.2.1⟩

set_option maxRecDepth 100000 in
set_option maxHeartbeats 4000000 in
theorem fApplyAdd_any (a b c d : ByteArray) (w : World) (hG : Ground w) (ha : a.size ≤ 100000) (hb : b.size ≤ 100000) (hc : c.size ≤ 100000) (hd : d.size ≤ 100000) :
    Calls Tryz.prog 96 #[.int .i64 0, .func (.func 97) #[] #[], .agg #[.string a, .string b], .agg #[.string c, .string d]] w fun e w' => e = .returned (.agg #[.string (cS ((raw a b).1 * (raw c d).2 + (raw c d).1 * (raw a b).2)), .string (cS ((raw a b).2 * (raw c d).2))]) ∧ Below w.heap.size w w' := by
  obtain ⟨W0, hW0⟩ : ∃ W0, W0 = ((w.alloc (.cells #[.string a, .string b] 36)).alloc (.cells #[.string c, .string d] 36)).alloc (.cells #[.string ⟨#[]⟩, .string ⟨#[]⟩] 97) := ⟨_, rfl⟩
  have hS0 : St2 w W0 36 97 a b c d := by rw [hW0]; exact St2.made hG _ _ _ _ _ _
  go_enter Tryz.func96, Tryz.ntmps96
  go_upto_region 1 with fail
  rw [← hW0]
  have hn2 : w.heap.size + 1 + 1 ≠ W0.heap.size := by rw [hW0]; simp
  clear hW0
  go_upto_region 2 with fail
  have hS := StA.made hS0
  clear hS0
  obtain ⟨N, hN⟩ : ∃ N, N = W0.heap.size := ⟨_, rfl⟩
  rw [← hN] at hS hn2
  rw [← hN]
  obtain ⟨WW, hWW⟩ : ∃ WW, WW = W0.alloc (.cells #[.func (.func 142) #[] #[], .func (.func 143) #[] #[], .func (.func 144) #[] #[], .func (.func 145) #[] #[]] 136) := ⟨_, rfl⟩
  rw [← hWW] at hS
  rw [← hWW]
  clear hN hWW
  obtain ⟨⟨c0, c1, c2, c3, c4, c5, c6, c7⟩, g0, g1, g2, g3⟩ := hS.cells
  have hn1 : w.heap.size + 1 + 1 ≠ w.heap.size := by omega
  have HS := Lib.hid hS
  clear hS hG
  go_region_held3 (fun w' => w'.cell? ⟨w.heap.size, 0, none⟩ = some (.string a) ∧ w'.cell? ⟨w.heap.size, 1, none⟩ = some (.string b) ∧ w'.cell? ⟨w.heap.size + 1, 0, none⟩ = some (.string c) ∧ w'.cell? ⟨w.heap.size + 1, 1, none⟩ = some (.string d) ∧ w'.cell? ⟨N, 0, none⟩ = some (.func (.func 142) #[] #[]))
    (go_keep)
    (first
    | (go_at_call 97;
         (with_reducible refine Calls.mono (fValue_any a b _ 100001 (by omega) (by omega) (by decide)) ?_);
         (rintro e W1 ⟨p1, q1, rfl, e1, e2, e3, e4, hB1⟩);
         (have P1 := Lib.hid (And.intro (And.intro e1 e2) (And.intro e3 e4)));
         (have HS2 : StA w W1 N a b c d := (by first | exact HS.out.next hB1 | exact HS.out.next1 hB1 | exact HS.out.nextD hB1));
         (replace HS := Lib.hid HS2);
         (clear hB1 HS2 e1 e2 e3 e4);
         (obtain ⟨⟨c0, c1, c2, c3, c4, c5, c6, c7⟩, g0, g1, g2, g3⟩ := HS.out.cells))
    | (go_at_call 97;
         (with_reducible refine Calls.mono (fValue_any c d _ 100001 (by omega) (by omega) (by decide)) ?_);
         (rintro e W1 ⟨p2, q2, rfl, e1, e2, e3, e4, hB1⟩);
         (have P2 := Lib.hid (And.intro (And.intro e1 e2) (And.intro e3 e4)));
         (have HS2 : StA w W1 N a b c d := (by first | exact HS.out.next hB1 | exact HS.out.next1 hB1 | exact HS.out.nextD hB1));
         (replace HS := Lib.hid HS2);
         (clear hB1 HS2 e1 e2 e3 e4);
         (obtain ⟨⟨c0, c1, c2, c3, c4, c5, c6, c7⟩, g0, g1, g2, g3⟩ := HS.out.cells))
    | (go_at_call 142;
         (with_reducible refine Calls.mono (rAddRatio_v (a := p1) (b := q1) (c := p2) (d := q2) (x1 := (raw a b).1) (x2 := (raw a b).2) (y1 := (raw c d).1) (y2 := (raw c d).2) _ (by first | exact HS.out.st.g | exact HS.out.drew.st.g | exact (HS.out.drewN _).st.g) (by have := P1.out.2.1; omega) (by have := P1.out.2.2; omega) (by have := P2.out.2.1; omega) (by have := P2.out.2.2; omega) P1.out.1.1 P1.out.1.2 P2.out.1.1 P2.out.1.2) ?_);
         (rintro e W1 ⟨rfl, hB1⟩);
         (have HS2 : StA w W1 N a b c d := (by first | exact HS.out.next hB1 | exact HS.out.next1 hB1 | exact HS.out.nextD hB1));
         (replace HS := Lib.hid HS2);
         (clear hB1 HS2);
         (obtain ⟨⟨c0, c1, c2, c3, c4, c5, c6, c7⟩, g0, g1, g2, g3⟩ := HS.out.cells)))
  all_goals go_wp2_with fail
  all_goals obtain ⟨k0, k1, _, _⟩ := (HS.out.st.r.put (cS ((raw a b).1 * (raw c d).2 + (raw c d).1 * (raw a b).2)) (cS ((raw a b).2 * (raw c d).2))).cells
  all_goals exact bodyPost_ret (v := .agg #[.string (cS ((raw a b).1 * (raw c d).2 + (raw c d).1 * (raw a b).2)), .string (cS ((raw a b).2 * (raw c d).2))]) (by simp [results, Tryz.results96, go_sem, k0, k1]) rfl ⟨rfl, below_put HS.out.st.below (by omega) _ _⟩

set_option maxRecDepth 100000 in
set_option maxHeartbeats 4000000 in
theorem fApplySub_any (a b c d : ByteArray) (w : World) (hG : Ground w) (ha : a.size ≤ 100000) (hb : b.size ≤ 100000) (hc : c.size ≤ 100000) (hd : d.size ≤ 100000) :
    Calls Tryz.prog 96 #[.int .i64 1, .func (.func 97) #[] #[], .agg #[.string a, .string b], .agg #[.string c, .string d]] w fun e w' => e = .returned (.agg #[.string (cS ((raw a b).1 * (raw c d).2 + -(raw c d).1 * (raw a b).2)), .string (cS ((raw a b).2 * (raw c d).2))]) ∧ Below w.heap.size w w' := by
  obtain ⟨W0, hW0⟩ : ∃ W0, W0 = ((w.alloc (.cells #[.string a, .string b] 36)).alloc (.cells #[.string c, .string d] 36)).alloc (.cells #[.string ⟨#[]⟩, .string ⟨#[]⟩] 97) := ⟨_, rfl⟩
  have hS0 : St2 w W0 36 97 a b c d := by rw [hW0]; exact St2.made hG _ _ _ _ _ _
  go_enter Tryz.func96, Tryz.ntmps96
  go_upto_region 1 with fail
  rw [← hW0]
  have hn2 : w.heap.size + 1 + 1 ≠ W0.heap.size := by rw [hW0]; simp
  clear hW0
  go_upto_region 2 with fail
  have hS := StA.made hS0
  clear hS0
  obtain ⟨N, hN⟩ : ∃ N, N = W0.heap.size := ⟨_, rfl⟩
  rw [← hN] at hS hn2
  rw [← hN]
  obtain ⟨WW, hWW⟩ : ∃ WW, WW = W0.alloc (.cells #[.func (.func 142) #[] #[], .func (.func 143) #[] #[], .func (.func 144) #[] #[], .func (.func 145) #[] #[]] 136) := ⟨_, rfl⟩
  rw [← hWW] at hS
  rw [← hWW]
  clear hN hWW
  obtain ⟨⟨c0, c1, c2, c3, c4, c5, c6, c7⟩, g0, g1, g2, g3⟩ := hS.cells
  have hn1 : w.heap.size + 1 + 1 ≠ w.heap.size := by omega
  have HS := Lib.hid hS
  clear hS hG
  go_region_held3 (fun w' => w'.cell? ⟨w.heap.size, 0, none⟩ = some (.string a) ∧ w'.cell? ⟨w.heap.size, 1, none⟩ = some (.string b) ∧ w'.cell? ⟨w.heap.size + 1, 0, none⟩ = some (.string c) ∧ w'.cell? ⟨w.heap.size + 1, 1, none⟩ = some (.string d) ∧ w'.cell? ⟨N, 1, none⟩ = some (.func (.func 143) #[] #[]))
    (go_keep)
    (first
    | (go_at_call 97;
         (with_reducible refine Calls.mono (fValue_any a b _ 100001 (by omega) (by omega) (by decide)) ?_);
         (rintro e W1 ⟨p1, q1, rfl, e1, e2, e3, e4, hB1⟩);
         (have P1 := Lib.hid (And.intro (And.intro e1 e2) (And.intro e3 e4)));
         (have HS2 : StA w W1 N a b c d := (by first | exact HS.out.next hB1 | exact HS.out.next1 hB1 | exact HS.out.nextD hB1));
         (replace HS := Lib.hid HS2);
         (clear hB1 HS2 e1 e2 e3 e4);
         (obtain ⟨⟨c0, c1, c2, c3, c4, c5, c6, c7⟩, g0, g1, g2, g3⟩ := HS.out.cells))
    | (go_at_call 97;
         (with_reducible refine Calls.mono (fValue_any c d _ 100001 (by omega) (by omega) (by decide)) ?_);
         (rintro e W1 ⟨p2, q2, rfl, e1, e2, e3, e4, hB1⟩);
         (have P2 := Lib.hid (And.intro (And.intro e1 e2) (And.intro e3 e4)));
         (have HS2 : StA w W1 N a b c d := (by first | exact HS.out.next hB1 | exact HS.out.next1 hB1 | exact HS.out.nextD hB1));
         (replace HS := Lib.hid HS2);
         (clear hB1 HS2 e1 e2 e3 e4);
         (obtain ⟨⟨c0, c1, c2, c3, c4, c5, c6, c7⟩, g0, g1, g2, g3⟩ := HS.out.cells))
    | (go_at_call 143;
         (with_reducible refine Calls.mono (rSubRatio_v (a := p1) (b := q1) (c := p2) (d := q2) (x1 := (raw a b).1) (x2 := (raw a b).2) (y1 := (raw c d).1) (y2 := (raw c d).2) _ (by first | exact HS.out.st.g | exact HS.out.drew.st.g | exact (HS.out.drewN _).st.g) (by have := P1.out.2.1; omega) (by have := P1.out.2.2; omega) (by have := P2.out.2.1; omega) (by have := P2.out.2.2; omega) P1.out.1.1 P1.out.1.2 P2.out.1.1 P2.out.1.2) ?_);
         (rintro e W1 ⟨rfl, hB1⟩);
         (have HS2 : StA w W1 N a b c d := (by first | exact HS.out.next hB1 | exact HS.out.next1 hB1 | exact HS.out.nextD hB1));
         (replace HS := Lib.hid HS2);
         (clear hB1 HS2);
         (obtain ⟨⟨c0, c1, c2, c3, c4, c5, c6, c7⟩, g0, g1, g2, g3⟩ := HS.out.cells)))
  all_goals go_wp2_with fail
  all_goals obtain ⟨k0, k1, _, _⟩ := (HS.out.st.r.put (cS ((raw a b).1 * (raw c d).2 + -(raw c d).1 * (raw a b).2)) (cS ((raw a b).2 * (raw c d).2))).cells
  all_goals exact bodyPost_ret (v := .agg #[.string (cS ((raw a b).1 * (raw c d).2 + -(raw c d).1 * (raw a b).2)), .string (cS ((raw a b).2 * (raw c d).2))]) (by simp [results, Tryz.results96, go_sem, k0, k1]) rfl ⟨rfl, below_put HS.out.st.below (by omega) _ _⟩

set_option maxRecDepth 100000 in
set_option maxHeartbeats 4000000 in
theorem fApplyMul_any (a b c d : ByteArray) (w : World) (hG : Ground w) (ha : a.size ≤ 100000) (hb : b.size ≤ 100000) (hc : c.size ≤ 100000) (hd : d.size ≤ 100000) :
    Calls Tryz.prog 96 #[.int .i64 2, .func (.func 97) #[] #[], .agg #[.string a, .string b], .agg #[.string c, .string d]] w fun e w' => e = .returned (.agg #[.string (cS ((raw a b).1 * (raw c d).1)), .string (cS ((raw a b).2 * (raw c d).2))]) ∧ Below w.heap.size w w' := by
  obtain ⟨W0, hW0⟩ : ∃ W0, W0 = ((w.alloc (.cells #[.string a, .string b] 36)).alloc (.cells #[.string c, .string d] 36)).alloc (.cells #[.string ⟨#[]⟩, .string ⟨#[]⟩] 97) := ⟨_, rfl⟩
  have hS0 : St2 w W0 36 97 a b c d := by rw [hW0]; exact St2.made hG _ _ _ _ _ _
  go_enter Tryz.func96, Tryz.ntmps96
  go_upto_region 1 with fail
  rw [← hW0]
  have hn2 : w.heap.size + 1 + 1 ≠ W0.heap.size := by rw [hW0]; simp
  clear hW0
  go_upto_region 2 with fail
  have hS := StA.made hS0
  clear hS0
  obtain ⟨N, hN⟩ : ∃ N, N = W0.heap.size := ⟨_, rfl⟩
  rw [← hN] at hS hn2
  rw [← hN]
  obtain ⟨WW, hWW⟩ : ∃ WW, WW = W0.alloc (.cells #[.func (.func 142) #[] #[], .func (.func 143) #[] #[], .func (.func 144) #[] #[], .func (.func 145) #[] #[]] 136) := ⟨_, rfl⟩
  rw [← hWW] at hS
  rw [← hWW]
  clear hN hWW
  obtain ⟨⟨c0, c1, c2, c3, c4, c5, c6, c7⟩, g0, g1, g2, g3⟩ := hS.cells
  have hn1 : w.heap.size + 1 + 1 ≠ w.heap.size := by omega
  have HS := Lib.hid hS
  clear hS hG
  go_region_held3 (fun w' => w'.cell? ⟨w.heap.size, 0, none⟩ = some (.string a) ∧ w'.cell? ⟨w.heap.size, 1, none⟩ = some (.string b) ∧ w'.cell? ⟨w.heap.size + 1, 0, none⟩ = some (.string c) ∧ w'.cell? ⟨w.heap.size + 1, 1, none⟩ = some (.string d) ∧ w'.cell? ⟨N, 2, none⟩ = some (.func (.func 144) #[] #[]))
    (go_keep)
    (first
    | (go_at_call 97;
         (with_reducible refine Calls.mono (fValue_any a b _ 100001 (by omega) (by omega) (by decide)) ?_);
         (rintro e W1 ⟨p1, q1, rfl, e1, e2, e3, e4, hB1⟩);
         (have P1 := Lib.hid (And.intro (And.intro e1 e2) (And.intro e3 e4)));
         (have HS2 : StA w W1 N a b c d := (by first | exact HS.out.next hB1 | exact HS.out.next1 hB1 | exact HS.out.nextD hB1));
         (replace HS := Lib.hid HS2);
         (clear hB1 HS2 e1 e2 e3 e4);
         (obtain ⟨⟨c0, c1, c2, c3, c4, c5, c6, c7⟩, g0, g1, g2, g3⟩ := HS.out.cells))
    | (go_at_call 97;
         (with_reducible refine Calls.mono (fValue_any c d _ 100001 (by omega) (by omega) (by decide)) ?_);
         (rintro e W1 ⟨p2, q2, rfl, e1, e2, e3, e4, hB1⟩);
         (have P2 := Lib.hid (And.intro (And.intro e1 e2) (And.intro e3 e4)));
         (have HS2 : StA w W1 N a b c d := (by first | exact HS.out.next hB1 | exact HS.out.next1 hB1 | exact HS.out.nextD hB1));
         (replace HS := Lib.hid HS2);
         (clear hB1 HS2 e1 e2 e3 e4);
         (obtain ⟨⟨c0, c1, c2, c3, c4, c5, c6, c7⟩, g0, g1, g2, g3⟩ := HS.out.cells))
    | (go_at_call 144;
         (with_reducible refine Calls.mono (rMulRatio_v (a := p1) (b := q1) (c := p2) (d := q2) (x1 := (raw a b).1) (x2 := (raw a b).2) (y1 := (raw c d).1) (y2 := (raw c d).2) _ (by first | exact HS.out.st.g | exact HS.out.drew.st.g | exact (HS.out.drewN _).st.g) (by have := P1.out.2.1; omega) (by have := P1.out.2.2; omega) (by have := P2.out.2.1; omega) (by have := P2.out.2.2; omega) P1.out.1.1 P1.out.1.2 P2.out.1.1 P2.out.1.2) ?_);
         (rintro e W1 ⟨rfl, hB1⟩);
         (have HS2 : StA w W1 N a b c d := (by first | exact HS.out.next hB1 | exact HS.out.next1 hB1 | exact HS.out.nextD hB1));
         (replace HS := Lib.hid HS2);
         (clear hB1 HS2);
         (obtain ⟨⟨c0, c1, c2, c3, c4, c5, c6, c7⟩, g0, g1, g2, g3⟩ := HS.out.cells)))
  all_goals go_wp2_with fail
  all_goals obtain ⟨k0, k1, _, _⟩ := (HS.out.st.r.put (cS ((raw a b).1 * (raw c d).1)) (cS ((raw a b).2 * (raw c d).2))).cells
  all_goals exact bodyPost_ret (v := .agg #[.string (cS ((raw a b).1 * (raw c d).1)), .string (cS ((raw a b).2 * (raw c d).2))]) (by simp [results, Tryz.results96, go_sem, k0, k1]) rfl ⟨rfl, below_put HS.out.st.below (by omega) _ _⟩

set_option maxRecDepth 100000 in
set_option maxHeartbeats 4000000 in
theorem fApplyQuo_any (a b c d : ByteArray) (w : World) (hG : Ground w) (ha : a.size ≤ 100000) (hb : b.size ≤ 100000) (hc : c.size ≤ 100000) (hd : d.size ≤ 100000) (h0 : (raw c d).1 ≠ 0) :
    Calls Tryz.prog 96 #[.int .i64 3, .func (.func 97) #[] #[], .agg #[.string a, .string b], .agg #[.string c, .string d]] w fun e w' => e = .returned (.agg #[.string (cS ((raw a b).1 * (rawP (raw c d).2 (raw c d).1).1)), .string (cS ((raw a b).2 * (rawP (raw c d).2 (raw c d).1).2))]) ∧ Below w.heap.size w w' := by
  obtain ⟨W0, hW0⟩ : ∃ W0, W0 = ((w.alloc (.cells #[.string a, .string b] 36)).alloc (.cells #[.string c, .string d] 36)).alloc (.cells #[.string ⟨#[]⟩, .string ⟨#[]⟩] 97) := ⟨_, rfl⟩
  have hS0 : St2 w W0 36 97 a b c d := by rw [hW0]; exact St2.made hG _ _ _ _ _ _
  go_enter Tryz.func96, Tryz.ntmps96
  go_upto_region 1 with fail
  rw [← hW0]
  have hn2 : w.heap.size + 1 + 1 ≠ W0.heap.size := by rw [hW0]; simp
  clear hW0
  go_upto_region 2 with fail
  have hS := StA.made hS0
  clear hS0
  obtain ⟨N, hN⟩ : ∃ N, N = W0.heap.size := ⟨_, rfl⟩
  rw [← hN] at hS hn2
  rw [← hN]
  obtain ⟨WW, hWW⟩ : ∃ WW, WW = W0.alloc (.cells #[.func (.func 142) #[] #[], .func (.func 143) #[] #[], .func (.func 144) #[] #[], .func (.func 145) #[] #[]] 136) := ⟨_, rfl⟩
  rw [← hWW] at hS
  rw [← hWW]
  clear hN hWW
  obtain ⟨⟨c0, c1, c2, c3, c4, c5, c6, c7⟩, g0, g1, g2, g3⟩ := hS.cells
  have hn1 : w.heap.size + 1 + 1 ≠ w.heap.size := by omega
  have HS := Lib.hid hS
  have H0 := Lib.hid h0
  clear hS hG
  go_region_held3 (fun w' => w'.cell? ⟨w.heap.size, 0, none⟩ = some (.string a) ∧ w'.cell? ⟨w.heap.size, 1, none⟩ = some (.string b) ∧ w'.cell? ⟨w.heap.size + 1, 0, none⟩ = some (.string c) ∧ w'.cell? ⟨w.heap.size + 1, 1, none⟩ = some (.string d) ∧ w'.cell? ⟨N, 3, none⟩ = some (.func (.func 145) #[] #[]))
    (go_keep)
    (first
    | (go_at_call 97;
         (with_reducible refine Calls.mono (fValue_any a b _ 100001 (by omega) (by omega) (by decide)) ?_);
         (rintro e W1 ⟨p1, q1, rfl, e1, e2, e3, e4, hB1⟩);
         (have P1 := Lib.hid (And.intro (And.intro e1 e2) (And.intro e3 e4)));
         (have HS2 : StA w W1 N a b c d := (by first | exact HS.out.next hB1 | exact HS.out.next1 hB1 | exact HS.out.nextD hB1));
         (replace HS := Lib.hid HS2);
         (clear hB1 HS2 e1 e2 e3 e4);
         (obtain ⟨⟨c0, c1, c2, c3, c4, c5, c6, c7⟩, g0, g1, g2, g3⟩ := HS.out.cells))
    | (go_at_call 97;
         (with_reducible refine Calls.mono (fValue_any c d _ 100001 (by omega) (by omega) (by decide)) ?_);
         (rintro e W1 ⟨p2, q2, rfl, e1, e2, e3, e4, hB1⟩);
         (have P2 := Lib.hid (And.intro (And.intro e1 e2) (And.intro e3 e4)));
         (have HS2 : StA w W1 N a b c d := (by first | exact HS.out.next hB1 | exact HS.out.next1 hB1 | exact HS.out.nextD hB1));
         (replace HS := Lib.hid HS2);
         (clear hB1 HS2 e1 e2 e3 e4);
         (obtain ⟨⟨c0, c1, c2, c3, c4, c5, c6, c7⟩, g0, g1, g2, g3⟩ := HS.out.cells))
    | (go_at_call 145;
         (with_reducible refine Calls.mono (rDivRatio_v (a := p1) (b := q1) (c := p2) (d := q2) (x1 := (raw a b).1) (x2 := (raw a b).2) (y1 := (raw c d).1) (y2 := (raw c d).2) _ (by first | exact HS.out.st.g | exact HS.out.drew.st.g | exact (HS.out.drewN _).st.g) (by have := P1.out.2.1; omega) (by have := P1.out.2.2; omega) (by have := P2.out.2.1; omega) (by have := P2.out.2.2; omega) P1.out.1.1 P1.out.1.2 P2.out.1.1 P2.out.1.2 H0.out) ?_);
         (rintro e W1 ⟨rfl, hB1⟩);
         (have HS2 : StA w W1 N a b c d := (by first | exact HS.out.next hB1 | exact HS.out.next1 hB1 | exact HS.out.nextD hB1));
         (replace HS := Lib.hid HS2);
         (clear hB1 HS2);
         (obtain ⟨⟨c0, c1, c2, c3, c4, c5, c6, c7⟩, g0, g1, g2, g3⟩ := HS.out.cells)))
  all_goals go_wp2_with fail
  all_goals obtain ⟨k0, k1, _, _⟩ := (HS.out.st.r.put (cS ((raw a b).1 * (rawP (raw c d).2 (raw c d).1).1)) (cS ((raw a b).2 * (rawP (raw c d).2 (raw c d).1).2))).cells
  all_goals exact bodyPost_ret (v := .agg #[.string (cS ((raw a b).1 * (rawP (raw c d).2 (raw c d).1).1)), .string (cS ((raw a b).2 * (rawP (raw c d).2 (raw c d).1).2))]) (by simp [results, Tryz.results96, go_sem, k0, k1]) rfl ⟨rfl, below_put HS.out.st.below (by omega) _ _⟩

end Go.Proofs.YthhihdihkddakaaGreatDoor

/- The program's layer 2: apply at integers, Add, Sub, Mul, Neg, Of, New, Quo: the walks. -/
namespace Go.Proofs.YthhihdihkddakaaGreatDoor
open Go.RowKit Fra

/-- the variable of a result and the table of operations, behind some calls -/
structure StI (w W : World) (N : Nat) : Prop where
  g : Ground W
  r : PairAt W w.heap.size 97 ⟨#[]⟩ ⟨#[]⟩
  tab : FunsAt W N (.func (.func 142) #[] #[]) (.func (.func 143) #[] #[]) (.func (.func 144) #[] #[]) (.func (.func 145) #[] #[])
  below : Below w.heap.size w W
theorem StI.next {w W W1 : World} {N : Nat} (h : StI w W N) (hb : Below W.heap.size W W1) : StI w W1 N := ⟨h.g.below hb, h.r.below hb, h.tab.below hb, h.below.trans (hb.mono h.below.size)⟩
theorem StI.drewN {w W : World} {N : Nat} (h : StI w W N) (q : Nat) : StI w (W.drewN q) N := ⟨(h.g.drewN q), h.r, h.tab, below_drewN h.below q⟩
theorem StI.drew {w W : World} {N : Nat} (h : StI w W N) : StI w W.drew N := h.drewN 1
theorem StI.next1 {w W W1 : World} {N : Nat} (h : StI w W N) (hb : Below W.drew.heap.size W.drew W1) : StI w W1 N := h.drew.next hb
theorem StI.nextD {w W W1 : World} {N q : Nat} (h : StI w W N) (hb : Below (W.drewN q).heap.size (W.drewN q) W1) : StI w W1 N := (h.drewN q).next hb

set_option maxRecDepth 100000 in
set_option maxHeartbeats 4000000 in
theorem fApplyInt_any (n d : ByteArray) (w : World) (hG : Ground w) (hn : n.size ≤ 100000) (hd : d.size ≤ 100000) (h0 : vS d ≠ 0) :
    Calls Tryz.prog 93 #[.int .i64 3, .func (.func 94) #[] #[], .string n, .string d] w fun e w' => e = .returned (.agg #[.string (cS (vS n * (rawP 1 (vS d)).1)), .string (cS (rawP 1 (vS d)).2)]) ∧ Below w.heap.size w w' := by
  obtain ⟨W0, hW0⟩ : ∃ W0, W0 = w.alloc (.cells #[.string ⟨#[]⟩, .string ⟨#[]⟩] 97) := ⟨_, rfl⟩
  have hB0 : Below w.heap.size w W0 := by rw [hW0]; exact (Below.refl _ _).alloc (Nat.le_refl _) _
  have hP : PairAt W0 w.heap.size 97 ⟨#[]⟩ ⟨#[]⟩ := by rw [hW0]; exact PairAt.made _ _ _ _
  go_enter Tryz.func93, Tryz.ntmps93
  go_upto_region 1 with fail
  rw [← hW0]
  have hn2 : w.heap.size ≠ W0.heap.size := by rw [hW0]; simp
  clear hW0
  go_upto_region 2 with fail
  obtain ⟨N, hN⟩ : ∃ N, N = W0.heap.size := ⟨_, rfl⟩
  obtain ⟨WW, hWW⟩ : ∃ WW, WW = W0.alloc (.cells #[.func (.func 142) #[] #[], .func (.func 143) #[] #[], .func (.func 144) #[] #[], .func (.func 145) #[] #[]] 136) := ⟨_, rfl⟩
  have hBW : Below W0.heap.size W0 WW := by rw [hWW]; exact (Below.refl _ _).alloc (Nat.le_refl _) _
  have hS : StI w WW N := ⟨hG.below (hB0.trans (hBW.mono hB0.size)), hP.below hBW, by rw [hWW, hN]; exact FunsAt.made _ _ _ _ _, hB0.trans (hBW.mono hB0.size)⟩
  rw [← hN] at hn2
  rw [← hN, ← hWW]
  clear hN hWW hBW hB0 hP
  obtain ⟨_, _, _, g3, _, _, _, _⟩ := hS.tab.cells
  obtain ⟨r0, r1, r2, r3⟩ := hS.r.cells
  have HS := Lib.hid hS
  have H0 := Lib.hid h0
  clear hS hG h0
  go_region_held3 (fun w' => w'.cell? ⟨N, 3, none⟩ = some (.func (.func 145) #[] #[]))
    (go_keep)
    (first
    | (go_at_call 94;
         (with_reducible refine Calls.mono (fWhole_any _ _) ?_);
         (rintro e W1 ⟨rfl, hB1⟩);
         (have HS2 : StI w W1 N := (by first | exact HS.out.next hB1 | exact HS.out.next1 hB1 | exact HS.out.nextD hB1));
         (replace HS := Lib.hid HS2);
         (clear hB1 HS2);
         (obtain ⟨_, _, _, g3, _, _, _, _⟩ := HS.out.tab.cells);
         (obtain ⟨r0, r1, r2, r3⟩ := HS.out.r.cells))
    | (go_at_call 145;
         (with_reducible refine Calls.mono (rDivRatio_v (a := n) (b := ⟨#[49]⟩) (c := d) (d := ⟨#[49]⟩) (x1 := vS n) (x2 := 1) (y1 := vS d) (y2 := 1) _ (by first | exact HS.out.g | exact HS.out.drew.g | exact (HS.out.drewN _).g) (by omega) (by decide) (by omega) (by decide) rfl vS_one rfl vS_one H0.out) ?_);
         (rintro e W1 ⟨rfl, hB1⟩);
         (have HS2 : StI w W1 N := (by first | exact HS.out.next hB1 | exact HS.out.next1 hB1 | exact HS.out.nextD hB1));
         (replace HS := Lib.hid HS2);
         (clear hB1 HS2);
         (obtain ⟨_, _, _, g3, _, _, _, _⟩ := HS.out.tab.cells);
         (obtain ⟨r0, r1, r2, r3⟩ := HS.out.r.cells)))
  all_goals go_wp2_with fail
  all_goals obtain ⟨k0, k1, _, _⟩ := (HS.out.r.put (cS (vS n * (rawP 1 (vS d)).1)) (cS (rawP 1 (vS d)).2)).cells
  all_goals exact bodyPost_ret (v := .agg #[.string (cS (vS n * (rawP 1 (vS d)).1)), .string (cS (rawP 1 (vS d)).2)]) (by simp [results, Tryz.results93, go_sem, k0, k1]) rfl ⟨rfl, below_put HS.out.below (Nat.le_refl _) _ _⟩

theorem size_of {k : Nat} {z : Int} (h : Cap k z) (hk : k ≤ 4294967293) : (cS z).size ≤ 4294967294 := by have := cS_size h; omega

set_option maxRecDepth 100000 in
set_option maxHeartbeats 2000000 in
theorem fAdd_any (n d m e : ByteArray) (w : World) (hG : Ground w) (ha : n.size ≤ 100000) (hb : d.size ≤ 100000) (hc : m.size ≤ 100000) (hd : e.size ≤ 100000) :
    Calls Tryz.prog 43 #[.agg #[.string n, .string d], .agg #[.string m, .string e]] w (FPost w (addP (raw n d) (raw m e))) := by
  have cx := CapP.of_raw (k := 100000) (by decide) ha hb
  have cy := CapP.of_raw (k := 100000) (by decide) hc hd
  have HU := Lib.hid (show (cS ((raw n d).1 * (raw m e).2 + (raw m e).1 * (raw n d).2)).size ≤ 4294967294 from size_of (Cap.add (Cap.mul cx.1 cy.2) (Cap.mul cy.1 cx.2)) (by decide))
  have HV := Lib.hid (show (cS ((raw n d).2 * (raw m e).2)).size ≤ 4294967294 from size_of (Cap.mul cx.2 cy.2) (by decide))
  have HP := Lib.hid (Int.mul_pos (raw_pos n d) (raw_pos m e))
  clear cx cy
  obtain ⟨W0, hW0⟩ : ∃ W0, W0 = ((w.alloc (.cells #[.string n, .string d] 36)).alloc (.cells #[.string m, .string e] 36)).alloc (.cells #[.string ⟨#[]⟩, .string ⟨#[]⟩] 36) := ⟨_, rfl⟩
  have hS : St2 w W0 36 36 n d m e := by rw [hW0]; exact St2.made hG _ _ _ _ _ _
  obtain ⟨c0, c1, c2, c3, _, _, _, _⟩ := hS.cells
  go_enter Tryz.func43, Tryz.ntmps43
  go_wp2_with fail
  rw [← hW0]
  clear hW0
  refine (fApplyAdd_any n d m e W0 hS.g ha hb hc hd).mono ?_
  rintro _ w1 ⟨rfl, hB1⟩
  have hS1 := hS.next hB1
  clear hB1 c0 c1 c2 c3 hS
  go_wp2_with fail
  refine (show Calls _ _ _ w1 (FPost w1 (addP (raw n d) (raw m e))) from fCanonical_v w1 hS1.g HU.out HV.out (vS_cS _) (vS_cS _) HP.out).mono ?_
  rintro _ w2 ⟨rfl, hB2⟩
  have hS2 := hS1.next hB2
  clear hB2 hS1
  obtain ⟨_, _, _, _, c4, c5, c6, c7⟩ := hS2.cells
  go_wp2_with fail
  obtain ⟨k0, k1, _, _⟩ := (hS2.r.put (cS (addP (raw n d) (raw m e)).1) (cD (addP (raw n d) (raw m e)).2)).cells
  exact bodyPost_ret (v := .agg #[.string (cS (addP (raw n d) (raw m e)).1), .string (cD (addP (raw n d) (raw m e)).2)]) (by simp [results, Tryz.results43, go_sem, k0, k1]) rfl ⟨rfl, below_put hS2.below (by omega) _ _⟩

set_option maxRecDepth 100000 in
set_option maxHeartbeats 2000000 in
theorem fSub_any (n d m e : ByteArray) (w : World) (hG : Ground w) (ha : n.size ≤ 100000) (hb : d.size ≤ 100000) (hc : m.size ≤ 100000) (hd : e.size ≤ 100000) :
    Calls Tryz.prog 40 #[.agg #[.string n, .string d], .agg #[.string m, .string e]] w (FPost w (subP (raw n d) (raw m e))) := by
  have cx := CapP.of_raw (k := 100000) (by decide) ha hb
  have cy := CapP.of_raw (k := 100000) (by decide) hc hd
  have HU := Lib.hid (show (cS ((raw n d).1 * (raw m e).2 + -(raw m e).1 * (raw n d).2)).size ≤ 4294967294 from size_of (Cap.add (Cap.mul cx.1 cy.2) (Cap.mul cy.1.neg cx.2)) (by decide))
  have HV := Lib.hid (show (cS ((raw n d).2 * (raw m e).2)).size ≤ 4294967294 from size_of (Cap.mul cx.2 cy.2) (by decide))
  have HP := Lib.hid (Int.mul_pos (raw_pos n d) (raw_pos m e))
  clear cx cy
  obtain ⟨W0, hW0⟩ : ∃ W0, W0 = ((w.alloc (.cells #[.string n, .string d] 36)).alloc (.cells #[.string m, .string e] 36)).alloc (.cells #[.string ⟨#[]⟩, .string ⟨#[]⟩] 36) := ⟨_, rfl⟩
  have hS : St2 w W0 36 36 n d m e := by rw [hW0]; exact St2.made hG _ _ _ _ _ _
  obtain ⟨c0, c1, c2, c3, _, _, _, _⟩ := hS.cells
  go_enter Tryz.func40, Tryz.ntmps40
  go_wp2_with fail
  rw [← hW0]
  clear hW0
  refine (fApplySub_any n d m e W0 hS.g ha hb hc hd).mono ?_
  rintro _ w1 ⟨rfl, hB1⟩
  have hS1 := hS.next hB1
  clear hB1 c0 c1 c2 c3 hS
  go_wp2_with fail
  refine (show Calls _ _ _ w1 (FPost w1 (subP (raw n d) (raw m e))) from fCanonical_v w1 hS1.g HU.out HV.out (vS_cS _) (vS_cS _) HP.out).mono ?_
  rintro _ w2 ⟨rfl, hB2⟩
  have hS2 := hS1.next hB2
  clear hB2 hS1
  obtain ⟨_, _, _, _, c4, c5, c6, c7⟩ := hS2.cells
  go_wp2_with fail
  obtain ⟨k0, k1, _, _⟩ := (hS2.r.put (cS (subP (raw n d) (raw m e)).1) (cD (subP (raw n d) (raw m e)).2)).cells
  exact bodyPost_ret (v := .agg #[.string (cS (subP (raw n d) (raw m e)).1), .string (cD (subP (raw n d) (raw m e)).2)]) (by simp [results, Tryz.results40, go_sem, k0, k1]) rfl ⟨rfl, below_put hS2.below (by omega) _ _⟩

set_option maxRecDepth 100000 in
set_option maxHeartbeats 2000000 in
theorem fMul_any (n d m e : ByteArray) (w : World) (hG : Ground w) (ha : n.size ≤ 100000) (hb : d.size ≤ 100000) (hc : m.size ≤ 100000) (hd : e.size ≤ 100000) :
    Calls Tryz.prog 44 #[.agg #[.string n, .string d], .agg #[.string m, .string e]] w (FPost w (mulP (raw n d) (raw m e))) := by
  have cx := CapP.of_raw (k := 100000) (by decide) ha hb
  have cy := CapP.of_raw (k := 100000) (by decide) hc hd
  have HU := Lib.hid (show (cS ((raw n d).1 * (raw m e).1)).size ≤ 4294967294 from size_of (Cap.mul cx.1 cy.1) (by decide))
  have HV := Lib.hid (show (cS ((raw n d).2 * (raw m e).2)).size ≤ 4294967294 from size_of (Cap.mul cx.2 cy.2) (by decide))
  have HP := Lib.hid (Int.mul_pos (raw_pos n d) (raw_pos m e))
  clear cx cy
  obtain ⟨W0, hW0⟩ : ∃ W0, W0 = ((w.alloc (.cells #[.string n, .string d] 36)).alloc (.cells #[.string m, .string e] 36)).alloc (.cells #[.string ⟨#[]⟩, .string ⟨#[]⟩] 36) := ⟨_, rfl⟩
  have hS : St2 w W0 36 36 n d m e := by rw [hW0]; exact St2.made hG _ _ _ _ _ _
  obtain ⟨c0, c1, c2, c3, _, _, _, _⟩ := hS.cells
  go_enter Tryz.func44, Tryz.ntmps44
  go_wp2_with fail
  rw [← hW0]
  clear hW0
  refine (fApplyMul_any n d m e W0 hS.g ha hb hc hd).mono ?_
  rintro _ w1 ⟨rfl, hB1⟩
  have hS1 := hS.next hB1
  clear hB1 c0 c1 c2 c3 hS
  go_wp2_with fail
  refine (show Calls _ _ _ w1 (FPost w1 (mulP (raw n d) (raw m e))) from fCanonical_v w1 hS1.g HU.out HV.out (vS_cS _) (vS_cS _) HP.out).mono ?_
  rintro _ w2 ⟨rfl, hB2⟩
  have hS2 := hS1.next hB2
  clear hB2 hS1
  obtain ⟨_, _, _, _, c4, c5, c6, c7⟩ := hS2.cells
  go_wp2_with fail
  obtain ⟨k0, k1, _, _⟩ := (hS2.r.put (cS (mulP (raw n d) (raw m e)).1) (cD (mulP (raw n d) (raw m e)).2)).cells
  exact bodyPost_ret (v := .agg #[.string (cS (mulP (raw n d) (raw m e)).1), .string (cD (mulP (raw n d) (raw m e)).2)]) (by simp [results, Tryz.results44, go_sem, k0, k1]) rfl ⟨rfl, below_put hS2.below (by omega) _ _⟩

end Go.Proofs.YthhihdihkddakaaGreatDoor

/- The program's layer 2: Neg, Of, New, Quo, Compare: the walks. -/
namespace Go.Proofs.YthhihdihkddakaaGreatDoor
open Go.RowKit Fra

/-- a box, and the variable of a result, behind some calls -/
structure St1 (w W : World) (s t : TypeId) (a b : ByteArray) : Prop where
  g : Ground W
  x : PairAt W w.heap.size s a b
  r : PairAt W (w.heap.size + 1) t ⟨#[]⟩ ⟨#[]⟩
  below : Below w.heap.size w W
theorem St1.next {w W W1 : World} {s t : TypeId} {a b : ByteArray} (h : St1 w W s t a b) (hb : Below W.heap.size W W1) : St1 w W1 s t a b :=
  ⟨h.g.below hb, h.x.below hb, h.r.below hb, h.below.trans (hb.mono h.below.size)⟩
theorem St1.made {w : World} (hG : Ground w) (s t : TypeId) (a b : ByteArray) : St1 w ((w.alloc (.cells #[.string a, .string b] s)).alloc (.cells #[.string ⟨#[]⟩, .string ⟨#[]⟩] t)) s t a b :=
  ⟨hG.below (below_two _ _ _), (Box1.made w s t a b).x, (Box1.made w s t a b).r, below_two _ _ _⟩

theorem raw_nil : raw ⟨#[]⟩ ⟨#[]⟩ = (0, 1) := by decide +kernel
theorem raw_zero_iff {m e : ByteArray} : (raw m e).1 = 0 ↔ vS m = 0 := by
  unfold raw rawP
  split
  · exact Iff.rfl
  · split
    · show -vS m = 0 ↔ _; omega
    · exact Iff.rfl
theorem red_one (x : Int) : red x 1 = (x, 1) := red_lowest (by simp)
theorem new_red {n y : Int} (h : y ≠ 0) : red (n * (rawP 1 y).1) (rawP 1 y).2 = redS n y := by
  unfold rawP redS
  rw [if_neg h]
  split
  · show red (n * -1) (-y) = _; rw [Int.mul_neg, Int.mul_one]
  · show red (n * 1) y = _; rw [Int.mul_one]
theorem quo_red {x1 x2 y1 y2 : Int} (hx : 0 < x2) (h : y1 ≠ 0) : red (x1 * (rawP y2 y1).1) (x2 * (rawP y2 y1).2) = quoP (x1, x2) (y1, y2) := by
  unfold rawP quoP redS
  rw [if_neg h]
  split
  · rename_i hl
    have : x2 * y1 < 0 := Int.mul_neg_of_pos_of_neg hx hl
    show red (x1 * -y2) (x2 * -y1) = if x2 * y1 < 0 then red (-(x1 * y2)) (-(x2 * y1)) else red (x1 * y2) (x2 * y1)
    rw [if_pos this, Int.mul_neg, Int.mul_neg]
  · have : 0 < x2 * y1 := Int.mul_pos hx (by omega)
    show red (x1 * y2) (x2 * y1) = if x2 * y1 < 0 then red (-(x1 * y2)) (-(x2 * y1)) else red (x1 * y2) (x2 * y1)
    rw [if_neg (by omega)]
theorem CapP.of_rawP {k : Nat} {n d : Int} (hk : 1 ≤ k) (c1 : Cap k n) (c2 : Cap k d) : CapP k (rawP n d) := by
  unfold rawP
  split
  · exact ⟨c1, Cap.one hk⟩
  · split
    · exact ⟨c1.neg, c2.neg⟩
    · exact ⟨c1, c2⟩

set_option maxRecDepth 100000 in
set_option maxHeartbeats 2000000 in
theorem fOf_any (a : ByteArray) (w : World) (hG : Ground w) (ha : a.size ≤ 100000) :
    Calls Tryz.prog 41 #[.string a] w fun e w' => e = .returned (.agg #[.string (cS (vS a)), .string ⟨#[]⟩]) ∧ Below w.heap.size w w' := by
  obtain ⟨W0, hW0⟩ : ∃ W0, W0 = w.alloc (.cells #[.string ⟨#[]⟩, .string ⟨#[]⟩] 36) := ⟨_, rfl⟩
  have hB0 : Below w.heap.size w W0 := by rw [hW0]; exact (Below.refl _ _).alloc (Nat.le_refl _) _
  have hP : PairAt W0 w.heap.size 36 ⟨#[]⟩ ⟨#[]⟩ := by rw [hW0]; exact PairAt.made _ _ _ _
  go_enter Tryz.func41, Tryz.ntmps41
  go_wp2_with fail
  rw [← hW0]
  clear hW0
  refine (fWhole_any a W0).mono ?_
  rintro _ w1 ⟨rfl, hB1⟩
  have hP1 := hP.below hB1
  have hB := hB0.trans (hB1.mono hB0.size)
  clear hB1 hB0 hP
  go_wp2_with fail
  refine (show Calls _ _ _ w1 (fun e w' => e = .returned (.agg #[.string (cS (vS a)), .string ⟨#[]⟩]) ∧ Below w1.heap.size w1 w') from by have := fCanonical_v (x := vS a) (y := 1) w1 (hG.below hB) (show a.size ≤ 4294967294 by omega) (show (ByteArray.mk #[49]).size ≤ 4294967294 by decide) rfl vS_one (by decide); rw [red_one] at this; exact this).mono ?_
  rintro _ w2 ⟨rfl, hB2⟩
  have hP2 := hP1.below hB2
  have hB' := hB.trans (hB2.mono hB.size)
  clear hB2 hB hP1
  obtain ⟨c4, c5, c6, c7⟩ := hP2.cells
  go_wp2_with fail
  obtain ⟨k0, k1, _, _⟩ := (hP2.put (cS (vS a)) ⟨#[]⟩).cells
  exact bodyPost_ret (v := .agg #[.string (cS (vS a)), .string ⟨#[]⟩]) (by simp [results, Tryz.results41, go_sem, k0, k1]) rfl ⟨rfl, below_put hB' (Nat.le_refl _) _ _⟩

set_option maxRecDepth 100000 in
set_option maxHeartbeats 2000000 in
theorem fNew_zero (n d : ByteArray) (w : World) (hd : d.size ≤ 100000) (h0 : vS d = 0) :
    Calls Tryz.prog 37 #[.string n, .string d] w fun e w' => e = .returned (.tuple #[.agg #[.string ⟨#[]⟩, .string ⟨#[]⟩], .int .i64 10]) ∧ Below w.heap.size w w' := by
  have HD := Lib.hid (decide_eq_true h0)
  clear h0
  obtain ⟨W0, hW0⟩ : ∃ W0, W0 = w.alloc (.cells #[.string ⟨#[]⟩, .string ⟨#[]⟩] 36) := ⟨_, rfl⟩
  have hB0 : Below w.heap.size w W0 := by rw [hW0]; exact (Below.refl _ _).alloc (Nat.le_refl _) _
  have hP : PairAt W0 w.heap.size 36 ⟨#[]⟩ ⟨#[]⟩ := by rw [hW0]; exact PairAt.made _ _ _ _
  go_enter Tryz.func37, Tryz.ntmps37
  go_wp2_with fail
  rw [← hW0]
  clear hW0
  refine (fZero_any d _ (by omega)).mono ?_
  rintro _ _ ⟨rfl, rfl⟩
  rw [HD.out]
  obtain ⟨c4, c5, c6, c7⟩ := hP.cells
  go_wp2_with fail
  obtain ⟨k0, k1, _, _⟩ := (hP.put ⟨#[]⟩ ⟨#[]⟩).cells
  exact bodyPost_ret (v := .tuple #[.agg #[.string ⟨#[]⟩, .string ⟨#[]⟩], .int .i64 10]) (by simp [results, Tryz.results37, go_sem, k0, k1]) rfl ⟨rfl, below_put hB0 (Nat.le_refl _) _ _⟩

set_option maxRecDepth 100000 in
set_option maxHeartbeats 2000000 in
theorem fNew_any (n d : ByteArray) (w : World) (hG : Ground w) (hn : n.size ≤ 100000) (hd : d.size ≤ 100000) (h0 : vS d ≠ 0) :
    Calls Tryz.prog 37 #[.string n, .string d] w fun e w' => e = .returned (.tuple #[.agg #[.string (cS (redS (vS n) (vS d)).1), .string (cD (redS (vS n) (vS d)).2)], .int .i64 0]) ∧ Below w.heap.size w w' := by
  have HD := Lib.hid (decide_eq_false h0)
  have H0 := Lib.hid h0
  have cr := CapP.of_rawP (k := 100000) (n := 1) (by decide) (Cap.one (by decide)) (Cap.of hd rfl)
  have HU := Lib.hid (show (cS (vS n * (rawP 1 (vS d)).1)).size ≤ 4294967294 from size_of (Cap.mul (Cap.of hn rfl) cr.1) (by decide))
  have HV := Lib.hid (show (cS (rawP 1 (vS d)).2).size ≤ 4294967294 from size_of cr.2 (by decide))
  have HE := Lib.hid (new_red (n := vS n) h0)
  clear h0 cr
  obtain ⟨W0, hW0⟩ : ∃ W0, W0 = w.alloc (.cells #[.string ⟨#[]⟩, .string ⟨#[]⟩] 36) := ⟨_, rfl⟩
  have hB0 : Below w.heap.size w W0 := by rw [hW0]; exact (Below.refl _ _).alloc (Nat.le_refl _) _
  have hP : PairAt W0 w.heap.size 36 ⟨#[]⟩ ⟨#[]⟩ := by rw [hW0]; exact PairAt.made _ _ _ _
  go_enter Tryz.func37, Tryz.ntmps37
  go_wp2_with fail
  rw [← hW0]
  clear hW0
  refine (fZero_any d _ (by omega)).mono ?_
  rintro _ _ ⟨rfl, rfl⟩
  rw [HD.out]
  go_wp2_with fail
  refine (fApplyInt_any n d W0 (hG.below hB0) hn hd H0.out).mono ?_
  rintro _ w1 ⟨rfl, hB1⟩
  have hP1 := hP.below hB1
  have hB := hB0.trans (hB1.mono hB0.size)
  clear hB1 hB0 hP
  go_wp2_with fail
  refine (show Calls _ _ _ w1 (FPost w1 (redS (vS n) (vS d))) from by have := fCanonical_v w1 (hG.below hB) HU.out HV.out (vS_cS _) (vS_cS _) (rawP_pos _ _); rwa [HE.out] at this).mono ?_
  rintro _ w2 ⟨rfl, hB2⟩
  have hP2 := hP1.below hB2
  have hB' := hB.trans (hB2.mono hB.size)
  clear hB2 hB hP1
  obtain ⟨c4, c5, c6, c7⟩ := hP2.cells
  go_wp2_with fail
  obtain ⟨k0, k1, _, _⟩ := (hP2.put (cS (redS (vS n) (vS d)).1) (cD (redS (vS n) (vS d)).2)).cells
  exact bodyPost_ret (v := .tuple #[.agg #[.string (cS (redS (vS n) (vS d)).1), .string (cD (redS (vS n) (vS d)).2)], .int .i64 0]) (by simp [results, Tryz.results37, go_sem, k0, k1]) rfl ⟨rfl, below_put hB' (Nat.le_refl _) _ _⟩

end Go.Proofs.YthhihdihkddakaaGreatDoor
