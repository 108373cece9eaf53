/- What the walks of the laws of layer 2 carry along: the boxes of fractions. -/
import Derived.Test.YtldohkfomdcpoaaDoorFaw
namespace Go.Proofs.YtldohkfomdcpoaaDoor
open Go.RowKit Fra

/-- fractions lie in these blocks -/
def Boxes (W : World) : List (Nat × ByteArray × ByteArray) → Prop
  | [] => True
  | x :: r => PairAt W x.1 24 x.2.1 x.2.2 ∧ Boxes W r
theorem Boxes.below {W W' : World} (hb : Below W.heap.size W W') : ∀ {L : List (Nat × ByteArray × ByteArray)}, Boxes W L → Boxes W' L
  | [], _ => trivial
  | _ :: _, h => ⟨h.1.below hb, Boxes.below hb h.2⟩
theorem Boxes.drewN {W : World} (q : Nat) : ∀ {L : List (Nat × ByteArray × ByteArray)}, Boxes W L → Boxes (W.drewN q) L
  | [], _ => trivial
  | _ :: _, h => ⟨h.1, Boxes.drewN q h.2⟩
structure StL (w W : World) (L : List (Nat × ByteArray × ByteArray)) : Prop where
  g : Ground W
  below : Below w.heap.size w W
  box : Boxes W L
  nd : L.Pairwise fun x y => x.1 ≠ y.1
  lo : ∀ x ∈ L, w.heap.size ≤ x.1
variable {w W W1 : World} {L : List (Nat × ByteArray × ByteArray)}
theorem Boxes.lt : ∀ {L : List (Nat × ByteArray × ByteArray)}, Boxes W L → ∀ x ∈ L, x.1 < W.heap.size
  | [], _, _, h => by simp at h
  | y :: r, hb, x, h => by
    rcases List.mem_cons.1 h with e | e
    · subst e; exact hb.1.lt
    · exact Boxes.lt hb.2 x e
theorem StL.next (h : StL w W L) (hb : Below W.heap.size W W1) : StL w W1 L := ⟨h.g.below hb, h.below.trans (hb.mono h.below.size), h.box.below hb, h.nd, h.lo⟩
theorem StL.drewN (h : StL w W L) (q : Nat) : StL w (W.drewN q) L := ⟨⟨h.g.tab, h.g.max⟩, below_drewN h.below q, h.box.drewN q, h.nd, h.lo⟩
theorem StL.drew (h : StL w W L) : StL w W.drew L := h.drewN 1
theorem StL.next1 (h : StL w W L) (hb : Below W.drew.heap.size W.drew W1) : StL w W1 L := h.drew.next hb
theorem StL.nextD {q : Nat} (h : StL w W L) (hb : Below (W.drewN q).heap.size (W.drewN q) W1) : StL w W1 L := (h.drewN q).next hb
theorem StL.other (h : StL w W L) (o : Obj) : StL w (W.alloc o) L := h.next ((Below.refl _ _).alloc (Nat.le_refl _) _)
theorem StL.alloc (h : StL w W L) (u v : ByteArray) : StL w (W.alloc (.cells #[.string u, .string v] 24)) ((W.heap.size, u, v) :: L) :=
  ⟨(h.other _).g, (h.other _).below, ⟨PairAt.made W _ u v, (h.other _).box⟩, List.pairwise_cons.2 ⟨fun x hx => by have := h.box.lt x hx; show W.heap.size ≠ x.1; omega, h.nd⟩, fun x hx => by
    rcases List.mem_cons.1 hx with e | e
    · subst e; exact h.below.size
    · exact h.lo x e⟩
theorem Boxes.setOther {a : Addr} {u : Value} : ∀ {L : List (Nat × ByteArray × ByteArray)}, (∀ x ∈ L, x.1 ≠ a.block) → Boxes W L → Boxes (W.setCell a u) L
  | [], _, _ => trivial
  | x :: r, hn, h => ⟨h.1.setOther (hn x (by simp)) u, Boxes.setOther (fun y hy => hn y (by simp [hy])) h.2⟩
theorem StL.fill (hG : Ground w) {b : Nat} {x y : ByteArray} (h : StL w W ((b, x, y) :: L)) (u v : ByteArray) : StL w ((W.setCell ⟨b, 0, none⟩ (.string u)).setCell ⟨b, 1, none⟩ (.string v)) ((b, u, v) :: L) := by
  have hlo : w.heap.size ≤ b := h.lo (b, x, y) (by simp)
  have hne := (List.pairwise_cons.1 h.nd).1
  have hb := below_put h.below hlo (.string u) (.string v)
  refine ⟨hG.below hb, hb, ⟨h.box.1.put u v, ?_⟩, List.pairwise_cons.2 ⟨hne, (List.pairwise_cons.1 h.nd).2⟩, fun z hz => ?_⟩
  · exact Boxes.setOther (fun z hz => (hne z hz).symm) (Boxes.setOther (fun z hz => (hne z hz).symm) h.box.2)
  · rcases List.mem_cons.1 hz with e | e
    · subst e; exact hlo
    · exact h.lo z (by simp [e])
theorem StL.fillA (hG : Ground w) {b : Nat} {x y : ByteArray} (h : StL w W ((b, x, y) :: L)) (u v a c : ByteArray) : StL w (((W.setCell ⟨b, 0, none⟩ (.string u)).setCell ⟨b, 1, none⟩ (.string v)).alloc (.cells #[.string a, .string c] 24)) ((W.heap.size, a, c) :: (b, u, v) :: L) := by
  have := (StL.fill hG h u v).alloc a c
  simpa [World.setCell] using this
theorem StL.swap {x y : Nat × ByteArray × ByteArray} (h : StL w W (x :: y :: L)) : StL w W (y :: x :: L) := by
  have h1 := List.pairwise_cons.1 h.nd
  have h2 := List.pairwise_cons.1 h1.2
  refine ⟨h.g, h.below, ⟨h.box.2.1, h.box.1, h.box.2.2⟩, List.pairwise_cons.2 ⟨fun z hz => ?_, List.pairwise_cons.2 ⟨fun z hz => h1.1 z (by simp [hz]), h2.2⟩⟩, fun z hz => h.lo z (by
    simp at hz ⊢
    rcases hz with e | e | e
    · exact .inr (.inl e)
    · exact .inl e
    · exact .inr (.inr e))⟩
  rcases List.mem_cons.1 hz with e | e
  · subst e; exact (h1.1 y (by simp)).symm
  · exact h2.1 z e
theorem StL.zero (hG : Ground w) : StL w w [] := ⟨hG, Below.refl _ _, trivial, .nil, fun _ h => by simp at h⟩
theorem StL.alloc2 (h : StL w W L) (u v a b : ByteArray) : StL w ((W.alloc (.cells #[.string u, .string v] 24)).alloc (.cells #[.string a, .string b] 24)) ((W.heap.size + 1, a, b) :: (W.heap.size, u, v) :: L) := by
  have := (h.alloc u v).alloc a b
  simpa using this
theorem StL.one (hG : Ground w) (a b : ByteArray) : StL w (w.alloc (.cells #[.string a, .string b] 24)) [(w.heap.size, a, b)] := (StL.zero hG).alloc a b
theorem StL.two (hG : Ground w) (a b c d : ByteArray) : StL w ((w.alloc (.cells #[.string a, .string b] 24)).alloc (.cells #[.string c, .string d] 24)) [(w.heap.size + 1, c, d), (w.heap.size, a, b)] := by
  have := (StL.one hG a b).alloc c d
  simpa using this
theorem StL.three (hG : Ground w) (a b c d e f : ByteArray) : StL w (((w.alloc (.cells #[.string a, .string b] 24)).alloc (.cells #[.string c, .string d] 24)).alloc (.cells #[.string e, .string f] 24)) [(w.heap.size + 1 + 1, e, f), (w.heap.size + 1, c, d), (w.heap.size, a, b)] := by
  have := (StL.two hG a b c d).alloc e f
  simpa using this
theorem addP_zero' (x : Int × Int) : addP x (0, 1) = low x := addP_zero
theorem frac_guards (x y : Operand) (a b c d : ByteArray) (W : World) : (eqGuard .eql 24 x y (.agg #[.string a, .string b]) (.agg #[.string c, .string d])).run Tryd.prog W = .ok () W := frac_guard _ _ _ _ _ _ _ _
theorem frac_guardn (x y : Operand) (a b c d : ByteArray) (W : World) : (eqGuard .neq 24 x y (.agg #[.string a, .string b]) (.agg #[.string c, .string d])).run Tryd.prog W = .ok () W := frac_guard _ _ _ _ _ _ _ _
theorem frac_nsame (a b : ByteArray) (W : World) : (binOp .neq 24 (.agg #[.string a, .string b]) (.agg #[.string a, .string b])).run Tryd.prog W = .ok (.bool false) W := frac_alike ⟨rfl, rfl⟩ W
theorem textP_size {k : Nat} {p : Int × Int} (h : CapP k p) : (textP p).size ≤ 2 * k + 5 := by
  have h1 := pS_size h.1
  have h2 := pS_size h.2
  unfold textP
  split
  · omega
  · rw [ByteArray.size_append, ByteArray.size_append]; show (pS p.1).size + 1 + (pS p.2).size ≤ _; omega

end Go.Proofs.YtldohkfomdcpoaaDoor
