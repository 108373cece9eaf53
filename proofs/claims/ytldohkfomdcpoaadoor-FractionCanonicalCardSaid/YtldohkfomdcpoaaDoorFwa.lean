/- The program's layer 2: isZero, whole, quotient, value, lowest, pack, canonical: the walks. -/
import Derived.Test.YtldohkfomdcpoaaDoorFrv
namespace Go.Proofs.YtldohkfomdcpoaaDoor
open Go.RowKit Fra

theorem eq_str (x y : ByteArray) (h : x ≠ y) : (x.toList == y.toList) = false := by rw [beq_toList]; simpa using h
theorem eq_nil (z : Int) : (cS z).toList.isEmpty = decide (z = 0) := by
  have e : (cS z).toList.isEmpty = ((cS z).toList == (ByteArray.mk #[]).toList) := by
    rw [show (ByteArray.mk #[]).toList = [] by decide +kernel]
    cases (cS z).toList <;> rfl
  rw [e, beq_toList]
  by_cases h : z = 0
  · subst h; decide +kernel
  · rw [decide_eq_false h, decide_eq_false_iff_not]
    exact fun e => h (cS_inj (e.trans cS_zero.symm))
theorem eq_one (z : Int) : ((cS z).toList == [49]) = decide (z = 1) := by
  rw [show [49] = (ByteArray.mk #[49]).toList by decide +kernel, beq_toList]
  by_cases h : z = 1
  · subst h; decide +kernel
  · rw [decide_eq_false h, decide_eq_false_iff_not]
    exact fun e => h (cS_inj (e.trans cS_one.symm))

set_option maxHeartbeats 400000 in
theorem fZero_any (s : ByteArray) (w : World) (hs : s.size ≤ 4294967296) :
    Calls Tryd.prog 33 #[.string s] w fun e w' => e = .returned (.bool (decide (vS s = 0))) ∧ w = w' := by
  have HZ := Lib.hid (eq_nil (vS s))
  go_enter Tryd.func33, Tryd.ntmps33
  go_wp2_with fail
  refine (canonical_any s w hs).mono ?_
  rintro e _ ⟨rfl, rfl⟩
  go_wp2_with fail
  go_ret
  exact ⟨by rw [← HZ.out]; rfl, rfl⟩

/-- two strings lie in block b -/
def PairAt (w : World) (b : Nat) (t : TypeId) (u v : ByteArray) : Prop := w.heap[b]? = some (.cells #[.string u, .string v] t (0, 0))
theorem PairAt.cells {w : World} {b : Nat} {t : TypeId} {u v : ByteArray} (h : PairAt w b t u v) : w.cell? ⟨b, 0, none⟩ = some (.string u) ∧ w.cell? ⟨b, 1, none⟩ = some (.string v) ∧ w.frozen? ⟨b, 0, none⟩ = false ∧ w.frozen? ⟨b, 1, none⟩ = false := by
  unfold PairAt at h
  exact ⟨by rw [cell_of_row w b 0 _ _ _ h]; rfl, by rw [cell_of_row w b 1 _ _ _ h]; rfl, frozen_of_row w b 0 _ _ h, frozen_of_row w b 1 _ _ h⟩
theorem PairAt.lt {w : World} {b : Nat} {t : TypeId} {u v : ByteArray} (h : PairAt w b t u v) : b < w.heap.size := by
  unfold PairAt at h
  rcases Nat.lt_or_ge b w.heap.size with h' | h'
  · exact h'
  · rw [Array.getElem?_eq_none h'] at h; simp at h
theorem PairAt.below {w w' : World} {b : Nat} {t : TypeId} {u v : ByteArray} (h : PairAt w b t u v) (hb : Below w.heap.size w w') : PairAt w' b t u v := by
  have hl := h.lt
  unfold PairAt at *; rw [hb.block b hl]; exact h
theorem PairAt.made (w : World) (t : TypeId) (u v : ByteArray) : PairAt (w.alloc (.cells #[.string u, .string v] t)) w.heap.size t u v := heap_alloc_new w _
theorem PairAt.alloc {w : World} {b : Nat} {t : TypeId} {u v : ByteArray} (h : PairAt w b t u v) (o : Obj) : PairAt (w.alloc o) b t u v := h.below ((Below.refl _ _).alloc (Nat.le_refl _) _)

theorem PairAt.put {W : World} {b : Nat} {t : TypeId} {x y : ByteArray} (h : PairAt W b t x y) (u v : ByteArray) : PairAt ((W.setCell ⟨b, 0, none⟩ (.string u)).setCell ⟨b, 1, none⟩ (.string v)) b t u v := by
  have h1 := heap_setCell_same W b 0 _ _ (.string u) h
  have h2 := heap_setCell_same (W.setCell ⟨b, 0, none⟩ (.string u)) b 1 _ _ (.string v) h1
  unfold PairAt; rw [h2]; rfl
/-- a box, and the variable of a result -/
structure Box1 (W : World) (B : Nat) (s t : TypeId) (a b : ByteArray) : Prop where
  x : PairAt W B s a b
  r : PairAt W (B + 1) t ⟨#[]⟩ ⟨#[]⟩
theorem Box1.below {W W' : World} {B : Nat} {s t : TypeId} {a b : ByteArray} (h : Box1 W B s t a b) (hb : Below W.heap.size W W') : Box1 W' B s t a b := ⟨h.x.below hb, h.r.below hb⟩
theorem Box1.made (w : World) (s t : TypeId) (a b : ByteArray) : Box1 ((w.alloc (.cells #[.string a, .string b] s)).alloc (.cells #[.string ⟨#[]⟩, .string ⟨#[]⟩] t)) w.heap.size s t a b := by
  refine ⟨(PairAt.made w s a b).alloc _, ?_⟩
  have := PairAt.made (w.alloc (.cells #[.string a, .string b] s)) t ⟨#[]⟩ ⟨#[]⟩
  simpa using this
theorem below_two (w : World) (o p : Obj) : Below w.heap.size w ((w.alloc o).alloc p) := ((Below.refl _ _).alloc (Nat.le_refl _) _).alloc (by simp) _
theorem below_put {w W : World} {b : Nat} (h : Below w.heap.size w W) (hb : w.heap.size ≤ b) (u v : Value) : Below w.heap.size w ((W.setCell ⟨b, 0, none⟩ u).setCell ⟨b, 1, none⟩ v) :=
  (h.setCell (p := ⟨b, 0, none⟩) hb _).setCell (p := ⟨b, 1, none⟩) hb _

set_option maxHeartbeats 400000 in
theorem fWhole_any (s : ByteArray) (w : World) :
    Calls Tryd.prog 35 #[.string s] w fun e w' => e = .returned (.agg #[.string s, .string ⟨#[49]⟩]) ∧ Below w.heap.size w w' := by
  go_enter Tryd.func35, Tryd.ntmps35
  go_wp2_with fail
  exact bodyPost_ret (v := .agg #[.string s, .string ⟨#[49]⟩]) (by simp [results, Tryd.results35, go_sem]) rfl ⟨rfl, (Below.refl _ w).alloc (Nat.le_refl _) _⟩

set_option maxRecDepth 100000 in
set_option maxHeartbeats 1000000 in
theorem fQuotient_any (n d : ByteArray) (w : World) (k : Nat) (hn : n.size + 1 ≤ k) (hd : d.size + 1 ≤ k) (hk : k ≤ 4294967295) (h0 : vS d ≠ 0) :
    Calls Tryd.prog 54 #[.string n, .string d] w (RatPost w (rawP (vS n) (vS d)) k) := by
  obtain ⟨W0, hW0⟩ : ∃ W0, W0 = w.alloc (.cells #[.string ⟨#[]⟩, .string ⟨#[]⟩] 54) := ⟨_, rfl⟩
  have hB0 : Below w.heap.size w W0 := by rw [hW0]; exact (Below.refl _ w).alloc (Nat.le_refl _) _
  have hP : PairAt W0 w.heap.size 54 ⟨#[]⟩ ⟨#[]⟩ := by rw [hW0]; exact PairAt.made _ _ _ _
  by_cases hl : vS d < 0
  · obtain ⟨e, he⟩ : ∃ e, e = cS (-vS n) := ⟨_, rfl⟩
    obtain ⟨g, hg⟩ : ∃ g, g = cS (-vS d) := ⟨_, rfl⟩
    have s1 : e.size ≤ k := by rw [he]; have := cS_size (z := -vS n) (k := n.size) (by rw [Int.natAbs_neg]; exact vS_lt n); omega
    have s2 : g.size ≤ k := by rw [hg]; have := cS_size (z := -vS d) (k := d.size) (by rw [Int.natAbs_neg]; exact vS_lt d); omega
    have HF := Lib.hid (show vS e = -vS n ∧ vS g = -vS d by rw [he, hg, vS_cS, vS_cS]; exact ⟨rfl, rfl⟩)
    have HE := Lib.hid he
    have HH := Lib.hid hg
    have HC := Lib.hid (cmp3_lt hl)
    have HR := Lib.hid (rawP_of_neg (n := vS n) hl)
    clear he hg
    go_enter Tryd.func54, Tryd.ntmps54
    go_wp2_with fail
    rw [← hW0]
    clear hW0
    refine (compare_v (x := vS d) (y := 0) (z := -1) _ (by omega) (by decide) rfl vS_nil HC.out).mono ?_
    rintro _ w1 ⟨rfl, hB1⟩
    have hB := hB0.trans (hB1.mono hB0.size)
    have hP1 := hP.below hB1
    obtain ⟨c1, c2, c3, c4⟩ := hP1.cells
    clear hB1 hB0
    go_wp2_with fail
    refine (neg_any n _ (by omega)).mono ?_
    rintro _ _ ⟨rfl, rfl⟩
    rw [← HE.out]
    go_wp2_with fail
    refine (neg_any d _ (by omega)).mono ?_
    rintro _ _ ⟨rfl, rfl⟩
    rw [← HH.out]
    go_wp2_with fail
    obtain ⟨k0, k1, _, _⟩ := (hP1.put e g).cells
    exact bodyPost_ret (v := .agg #[.string e, .string g]) (by simp [results, Tryd.results54, go_sem, k0, k1]) rfl ⟨e, g, rfl, by rw [HR.out]; exact HF.out.1, by rw [HR.out]; exact HF.out.2, s1, s2, below_put hB (Nat.le_refl _) _ _⟩
  · have HC := Lib.hid (cmp3_gt (show (0 : Int) < vS d by omega))
    have HR := Lib.hid (rawP_of_pos (n := vS n) (show (0 : Int) < vS d by omega))
    clear hl h0
    go_enter Tryd.func54, Tryd.ntmps54
    go_wp2_with fail
    rw [← hW0]
    clear hW0
    refine (compare_v (x := vS d) (y := 0) (z := 1) _ (by omega) (by decide) rfl vS_nil HC.out).mono ?_
    rintro _ w1 ⟨rfl, hB1⟩
    have hB := hB0.trans (hB1.mono hB0.size)
    have hP1 := hP.below hB1
    obtain ⟨c1, c2, c3, c4⟩ := hP1.cells
    clear hB1 hB0
    go_wp2_with fail
    obtain ⟨k0, k1, _, _⟩ := (hP1.put n d).cells
    exact bodyPost_ret (v := .agg #[.string n, .string d]) (by simp [results, Tryd.results54, go_sem, k0, k1]) rfl ⟨n, d, rfl, by rw [HR.out], by rw [HR.out], by omega, by omega, below_put hB (Nat.le_refl _) _ _⟩

end Go.Proofs.YtldohkfomdcpoaaDoor
