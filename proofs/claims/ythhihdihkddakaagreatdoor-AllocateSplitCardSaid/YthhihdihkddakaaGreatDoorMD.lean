/- The laws' own functions of layer 2: Great and Long; the contracts of the program's functions, by values. -/
import Derived.Test.YthhihdihkddakaaGreatDoorMC
namespace Go.Proofs.YthhihdihkddakaaGreatDoor
open Go.RowKit Fra

/-- some string is longer than k bytes -/
def flong (k : Nat) (fs : List (ByteArray × ByteArray)) : Bool := fs.any fun f => decide (k < f.1.size) || decide (k < f.2.size)
theorem flong_true {k : Nat} {fs : List (ByteArray × ByteArray)} {f : ByteArray × ByteArray} (h : f ∈ fs) (hs : k < f.1.size ∨ k < f.2.size) : flong k fs = true := by
  unfold flong; rw [List.any_eq_true]; exact ⟨f, h, by simpa using hs⟩
theorem flong_false {k : Nat} {fs : List (ByteArray × ByteArray)} (h : ∀ f ∈ fs, f.1.size ≤ k ∧ f.2.size ≤ k) : flong k fs = false := by
  unfold flong; rw [List.any_eq_false]; intro f hf; have := h f hf; simp; omega
def rowOf : List (ByteArray × ByteArray) → List Value
  | [] => []
  | f :: r => .string f.1 :: .string f.2 :: rowOf r
theorem rowOf_get : ∀ (fs : List (ByteArray × ByteArray)) (i : Nat), i < fs.length → (rowOf fs)[i * 2]? = some (.string (fs.getD i (⟨#[]⟩, ⟨#[]⟩)).1) ∧ (rowOf fs)[i * 2 + 1]? = some (.string (fs.getD i (⟨#[]⟩, ⟨#[]⟩)).2)
  | [], i, h => by simp at h
  | f :: r, 0, _ => ⟨rfl, rfl⟩
  | f :: r, i + 1, h => by
    have ih := rowOf_get r i (by simpa using h)
    rw [show (i + 1) * 2 = i * 2 + 1 + 1 by omega]
    simpa [rowOf] using ih
theorem fgreat_cells (w : World) (fs : List (ByteArray × ByteArray)) : ∀ i, i < fs.length → (w.alloc (.cells (rowOf fs).toArray 36)).cell? ⟨w.heap.size, i * 2, none⟩ = some (.string (fs.getD i (⟨#[]⟩, ⟨#[]⟩)).1) ∧
    (w.alloc (.cells (rowOf fs).toArray 36)).cell? ⟨w.heap.size, i * 2 + 1, none⟩ = some (.string (fs.getD i (⟨#[]⟩, ⟨#[]⟩)).2) := by
  intro i hi
  rw [cell_of_row _ _ _ _ _ _ (heap_alloc_new _ _), cell_of_row _ _ _ _ _ _ (heap_alloc_new _ _)]
  simpa using rowOf_get fs i hi

end Go.Proofs.YthhihdihkddakaaGreatDoor

/- The contracts of the program's functions of layer 2, by values; the laws' awake. -/
namespace Go.Proofs.YthhihdihkddakaaGreatDoor
open Go.RowKit Fra

/-- two strings with a value, of a size that every function bears -/
def Val (n d : ByteArray) (x : Int × Int) : Prop := raw n d = x ∧ n.size ≤ 99998 ∧ d.size ≤ 99998
theorem Val.pos {n d : ByteArray} {x : Int × Int} (h : Val n d x) : 0 < x.2 := by rw [← h.1]; exact raw_pos _ _
theorem Val.of {k : Nat} {p : Int × Int} (h : CapP k p) (hp : 0 < p.2) (hk : k ≤ 99997) : Val (cS p.1) (cD p.2) p :=
  ⟨raw_can hp, by have := cS_size h.1; omega, by have := cD_size h.2; omega⟩
theorem Val.zero : Val ⟨#[]⟩ ⟨#[]⟩ (0, 1) := ⟨raw_nil, by decide, by decide⟩
theorem CapP.zero {k : Nat} (h : 1 ≤ k) : CapP k (0, 1) := ⟨by unfold Cap; have := Nat.pow_pos (n := k) (show 0 < 10 by decide); exact this, Cap.one h⟩
theorem CapP.sub {k l : Nat} {x y : Int × Int} (h : CapP k x) (g : CapP l y) (hx : 0 < x.2) (hy : 0 < y.2) : CapP (k + l + 1) (subP x y) := by
  refine CapP.of_red (Int.mul_pos hx hy) (Cap.add (h.1.mul g.2) ?_) ((h.2.mul g.2).mono (by omega))
  have := g.1.neg.mul h.2
  rwa [Nat.add_comm] at this
theorem subP_pos {x y : Int × Int} (hx : 0 < x.2) (hy : 0 < y.2) : 0 < (subP x y).2 := red_pos (Int.mul_pos hx hy)
/-- a fraction that the law is given -/
structure Giv (k : Nat) (n d : ByteArray) (x : Int × Int) : Prop where
  eq : raw n d = x
  num : n.size ≤ k
  den : d.size ≤ k
theorem Giv.arg {k : Nat} {n d : ByteArray} {x : Int × Int} (h : Giv k n d x) (hk : k ≤ 99998) : Val n d x := ⟨h.eq, Nat.le_trans h.num hk, Nat.le_trans h.den hk⟩
theorem Giv.cap {k : Nat} {n d : ByteArray} {x : Int × Int} (h : Giv k n d x) (hk : 1 ≤ k) : CapP k x := by rw [← h.eq]; exact CapP.of_raw hk h.num h.den
theorem Giv.pos {k : Nat} {n d : ByteArray} {x : Int × Int} (h : Giv k n d x) : 0 < x.2 := by rw [← h.eq]; exact raw_pos _ _

theorem le_k {n : Nat} (h : n ≤ 99998) : n ≤ 100000 := by omega
section
variable {n d m e : ByteArray} {x y z : Int × Int} (w : World) (hG : Ground w)
include hG
theorem fAdd_v (h1 : Val n d x) (h2 : Val m e y) (hz : addP x y = z) : Calls Tryz.prog 43 #[.agg #[.string n, .string d], .agg #[.string m, .string e]] w (FPost w z) := by
  rw [← hz, ← h1.1, ← h2.1]; exact fAdd_any n d m e w hG (le_k h1.2.1) (le_k h1.2.2) (le_k h2.2.1) (le_k h2.2.2)
theorem fSub_v (h1 : Val n d x) (h2 : Val m e y) (hz : subP x y = z) : Calls Tryz.prog 40 #[.agg #[.string n, .string d], .agg #[.string m, .string e]] w (FPost w z) := by
  rw [← hz, ← h1.1, ← h2.1]; exact fSub_any n d m e w hG (le_k h1.2.1) (le_k h1.2.2) (le_k h2.2.1) (le_k h2.2.2)
theorem fMul_v (h1 : Val n d x) (h2 : Val m e y) (hz : mulP x y = z) : Calls Tryz.prog 44 #[.agg #[.string n, .string d], .agg #[.string m, .string e]] w (FPost w z) := by
  rw [← hz, ← h1.1, ← h2.1]; exact fMul_any n d m e w hG (le_k h1.2.1) (le_k h1.2.2) (le_k h2.2.1) (le_k h2.2.2)
theorem fCompare_v {c : Int} (h1 : Val n d x) (h2 : Val m e y) (hz : cmpP x y = c) : Calls Tryz.prog 45 #[.agg #[.string n, .string d], .agg #[.string m, .string e]] w fun r w' => r = .returned (.int .i64 c) ∧ Below w.heap.size w w' := by
  rw [← hz, ← h1.1, ← h2.1, ← cmpS_eq]; exact fCompare_any n d m e w hG (le_k h1.2.1) (le_k h1.2.2) (le_k h2.2.1) (le_k h2.2.2)
theorem fFloor_v {c : Int} (h1 : Val n d x) (hz : Int.fdiv x.1 x.2 = c) : Calls Tryz.prog 46 #[.agg #[.string n, .string d]] w (StrPost w c) := by
  rw [← hz, ← h1.1]; exact fFloor_any n d w hG (le_k h1.2.1) (le_k h1.2.2)
theorem fParts_v (h1 : Val n d x) (hz : low x = z) : Calls Tryz.prog 123 #[.agg #[.string n, .string d]] w fun r w' => r = .returned (.tuple #[.string (cS z.1), .string (cS z.2)]) ∧ Below w.heap.size w w' := by
  rw [← hz, ← h1.1]; exact fParts_any n d w hG (le_k h1.2.1) (le_k h1.2.2)
theorem fCheck_v (h1 : Val n d x) (hl : Low x) (hn : n = cS x.1) (hd : d = cD x.2) : Calls Tryz.prog 129 #[.agg #[.string n, .string d]] w fun r w' => r = .returned (.int .i64 0) ∧ Below w.heap.size w w' :=
  fCheck_ok n d w hG (le_k h1.2.1) (le_k h1.2.2) (by rw [h1.1, hl.eq]; exact ⟨hn.symm, hd.symm⟩)
theorem fNew_v {a b : ByteArray} {p q : Int} (ha : a.size ≤ 100000) (hb : b.size ≤ 100000) (h1 : vS a = p) (h2 : vS b = q) (h0 : q ≠ 0) (hz : redS p q = z) : Calls Tryz.prog 37 #[.string a, .string b] w fun e w' => e = .returned (.tuple #[.agg #[.string (cS z.1), .string (cD z.2)], .int .i64 0]) ∧ Below w.heap.size w w' := by
  rw [← hz, ← h1, ← h2]; exact fNew_any a b w hG ha hb (by rw [h2]; exact h0)
theorem fOf_v {a : ByteArray} {p : Int} (ha : a.size ≤ 100000) (h1 : vS a = p) : Calls Tryz.prog 41 #[.string a] w fun e w' => e = .returned (.agg #[.string (cS p), .string ⟨#[]⟩]) ∧ Below w.heap.size w w' := by
  rw [← h1]; exact fOf_any a w hG ha
/-! ### The chapter's examples -/
theorem aw_half : Calls Tryz.prog 37 #[.string ⟨#[49]⟩, .string ⟨#[50]⟩] w fun e w' => e = .returned (.tuple #[.agg #[.string ⟨#[49]⟩, .string ⟨#[50]⟩], .int .i64 0]) ∧ Below w.heap.size w w' := by
  have := fNew_v (z := (1, 2)) w hG (a := ⟨#[49]⟩) (b := ⟨#[50]⟩) (p := 1) (q := 2) (by decide) (by decide) (by decide +kernel) (by decide +kernel) (by decide) (by decide +kernel)
  rwa [show cS (1, 2).1 = ⟨#[49]⟩ by decide +kernel, show cD (1, 2).2 = ⟨#[50]⟩ by decide +kernel] at this
theorem aw_third : Calls Tryz.prog 37 #[.string ⟨#[49]⟩, .string ⟨#[51]⟩] w fun e w' => e = .returned (.tuple #[.agg #[.string ⟨#[49]⟩, .string ⟨#[51]⟩], .int .i64 0]) ∧ Below w.heap.size w w' := by
  have := fNew_v (z := (1, 3)) w hG (a := ⟨#[49]⟩) (b := ⟨#[51]⟩) (p := 1) (q := 3) (by decide) (by decide) (by decide +kernel) (by decide +kernel) (by decide) (by decide +kernel)
  rwa [show cS (1, 3).1 = ⟨#[49]⟩ by decide +kernel, show cD (1, 3).2 = ⟨#[51]⟩ by decide +kernel] at this
theorem aw_add : Calls Tryz.prog 43 #[.agg #[.string ⟨#[49]⟩, .string ⟨#[50]⟩], .agg #[.string ⟨#[49]⟩, .string ⟨#[51]⟩]] w fun e w' => e = .returned (.agg #[.string ⟨#[53]⟩, .string ⟨#[54]⟩]) ∧ Below w.heap.size w w' := by
  have := fAdd_v (x := (1, 2)) (y := (1, 3)) (z := (5, 6)) w hG (n := ⟨#[49]⟩) (d := ⟨#[50]⟩) (m := ⟨#[49]⟩) (e := ⟨#[51]⟩) ⟨by decide +kernel, by decide, by decide⟩ ⟨by decide +kernel, by decide, by decide⟩ (by decide +kernel)
  unfold FPost at this
  rwa [show cS (5, 6).1 = ⟨#[53]⟩ by decide +kernel, show cD (5, 6).2 = ⟨#[54]⟩ by decide +kernel] at this
theorem aw_floor : Calls Tryz.prog 46 #[.agg #[.string ⟨#[45, 55]⟩, .string ⟨#[50]⟩]] w fun e w' => e = .returned (.string ⟨#[45, 52]⟩) ∧ Below w.heap.size w w' := by
  have := fFloor_v (x := (-7, 2)) (c := -4) w hG (n := ⟨#[45, 55]⟩) (d := ⟨#[50]⟩) ⟨by decide +kernel, by decide, by decide⟩ (by decide +kernel)
  unfold StrPost at this
  rwa [show cS (-4) = ⟨#[45, 52]⟩ by decide +kernel] at this
theorem aw_check : Calls Tryz.prog 129 #[.agg #[.string ⟨#[50]⟩, .string ⟨#[52]⟩]] w fun e w' => e = .returned (.int .i64 1) ∧ Below w.heap.size w w' :=
  fCheck_bad ⟨#[50]⟩ ⟨#[52]⟩ w hG (by decide) (by decide) (by decide +kernel)
end

end Go.Proofs.YthhihdihkddakaaGreatDoor

/- The laws' awake of layer 2: the walk. -/
namespace Go.Proofs.YthhihdihkddakaaGreatDoor
open Go.RowKit Fra

end Go.Proofs.YthhihdihkddakaaGreatDoor

/- What the walks of the laws of layer 2 carry along: the boxes of fractions. -/
namespace Go.Proofs.YthhihdihkddakaaGreatDoor
open Go.RowKit Fra

/-- fractions lie in these blocks -/
def Boxes (W : World) : List (Nat × ByteArray × ByteArray) → Prop
  | [] => True
  | x :: r => PairAt W x.1 36 x.2.1 x.2.2 ∧ Boxes W r
theorem Boxes.below {W W' : World} (hb : Below W.heap.size W W') : ∀ {L : List (Nat × ByteArray × ByteArray)}, Boxes W L → Boxes W' L
  | [], _ => trivial
  | _ :: _, h => ⟨h.1.below hb, Boxes.below hb h.2⟩
theorem Boxes.drewN {W : World} (q : Nat) : ∀ {L : List (Nat × ByteArray × ByteArray)}, Boxes W L → Boxes (W.drewN q) L
  | [], _ => trivial
  | _ :: _, h => ⟨h.1, Boxes.drewN q h.2⟩
structure StL (w W : World) (L : List (Nat × ByteArray × ByteArray)) : Prop where
  g : Ground W
  below : Below w.heap.size w W
  box : Boxes W L
  nd : L.Pairwise fun x y => x.1 ≠ y.1
  lo : ∀ x ∈ L, w.heap.size ≤ x.1
variable {w W W1 : World} {L : List (Nat × ByteArray × ByteArray)}
theorem Boxes.lt : ∀ {L : List (Nat × ByteArray × ByteArray)}, Boxes W L → ∀ x ∈ L, x.1 < W.heap.size
  | [], _, _, h => by simp at h
  | y :: r, hb, x, h => by
    rcases List.mem_cons.1 h with e | e
    · subst e; exact hb.1.lt
    · exact Boxes.lt hb.2 x e
theorem StL.next (h : StL w W L) (hb : Below W.heap.size W W1) : StL w W1 L := ⟨h.g.below hb, h.below.trans (hb.mono h.below.size), h.box.below hb, h.nd, h.lo⟩
theorem StL.drewN (h : StL w W L) (q : Nat) : StL w (W.drewN q) L := ⟨(h.g.drewN q), below_drewN h.below q, h.box.drewN q, h.nd, h.lo⟩
theorem StL.drew (h : StL w W L) : StL w W.drew L := h.drewN 1
theorem StL.next1 (h : StL w W L) (hb : Below W.drew.heap.size W.drew W1) : StL w W1 L := h.drew.next hb
theorem StL.nextD {q : Nat} (h : StL w W L) (hb : Below (W.drewN q).heap.size (W.drewN q) W1) : StL w W1 L := (h.drewN q).next hb
theorem StL.other (h : StL w W L) (o : Obj) : StL w (W.alloc o) L := h.next ((Below.refl _ _).alloc (Nat.le_refl _) _)
theorem StL.alloc (h : StL w W L) (u v : ByteArray) : StL w (W.alloc (.cells #[.string u, .string v] 36)) ((W.heap.size, u, v) :: L) :=
  ⟨(h.other _).g, (h.other _).below, ⟨PairAt.made W _ u v, (h.other _).box⟩, List.pairwise_cons.2 ⟨fun x hx => by have := h.box.lt x hx; show W.heap.size ≠ x.1; omega, h.nd⟩, fun x hx => by
    rcases List.mem_cons.1 hx with e | e
    · subst e; exact h.below.size
    · exact h.lo x e⟩
theorem Boxes.setOther {a : Addr} {u : Value} : ∀ {L : List (Nat × ByteArray × ByteArray)}, (∀ x ∈ L, x.1 ≠ a.block) → Boxes W L → Boxes (W.setCell a u) L
  | [], _, _ => trivial
  | x :: r, hn, h => ⟨h.1.setOther (hn x (by simp)) u, Boxes.setOther (fun y hy => hn y (by simp [hy])) h.2⟩
theorem StL.fill (hG : Ground w) {b : Nat} {x y : ByteArray} (h : StL w W ((b, x, y) :: L)) (u v : ByteArray) : StL w ((W.setCell ⟨b, 0, none⟩ (.string u)).setCell ⟨b, 1, none⟩ (.string v)) ((b, u, v) :: L) := by
  have hlo : w.heap.size ≤ b := h.lo (b, x, y) (by simp)
  have hne := (List.pairwise_cons.1 h.nd).1
  have hb := below_put h.below hlo (.string u) (.string v)
  refine ⟨hG.below hb, hb, ⟨h.box.1.put u v, ?_⟩, List.pairwise_cons.2 ⟨hne, (List.pairwise_cons.1 h.nd).2⟩, fun z hz => ?_⟩
  · exact Boxes.setOther (fun z hz => (hne z hz).symm) (Boxes.setOther (fun z hz => (hne z hz).symm) h.box.2)
  · rcases List.mem_cons.1 hz with e | e
    · subst e; exact hlo
    · exact h.lo z (by simp [e])
theorem StL.fillA (hG : Ground w) {b : Nat} {x y : ByteArray} (h : StL w W ((b, x, y) :: L)) (u v a c : ByteArray) : StL w (((W.setCell ⟨b, 0, none⟩ (.string u)).setCell ⟨b, 1, none⟩ (.string v)).alloc (.cells #[.string a, .string c] 36)) ((W.heap.size, a, c) :: (b, u, v) :: L) := by
  have := (StL.fill hG h u v).alloc a c
  simpa [World.setCell] using this
theorem StL.swap {x y : Nat × ByteArray × ByteArray} (h : StL w W (x :: y :: L)) : StL w W (y :: x :: L) := by
  have h1 := List.pairwise_cons.1 h.nd
  have h2 := List.pairwise_cons.1 h1.2
  refine ⟨h.g, h.below, ⟨h.box.2.1, h.box.1, h.box.2.2⟩, List.pairwise_cons.2 ⟨fun z hz => ?_, List.pairwise_cons.2 ⟨fun z hz => h1.1 z (by simp [hz]), h2.2⟩⟩, fun z hz => h.lo z (by
    simp at hz ⊢
    rcases hz with e | e | e
    · exact .inr (.inl e)
    · exact .inl e
    · exact .inr (.inr e))⟩
  rcases List.mem_cons.1 hz with e | e
  · subst e; exact (h1.1 y (by simp)).symm
  · exact h2.1 z e
theorem StL.zero (hG : Ground w) : StL w w [] := ⟨hG, Below.refl _ _, trivial, .nil, fun _ h => by simp at h⟩
theorem StL.alloc2 (h : StL w W L) (u v a b : ByteArray) : StL w ((W.alloc (.cells #[.string u, .string v] 36)).alloc (.cells #[.string a, .string b] 36)) ((W.heap.size + 1, a, b) :: (W.heap.size, u, v) :: L) := by
  have := (h.alloc u v).alloc a b
  simpa using this
theorem StL.one (hG : Ground w) (a b : ByteArray) : StL w (w.alloc (.cells #[.string a, .string b] 36)) [(w.heap.size, a, b)] := (StL.zero hG).alloc a b
theorem StL.two (hG : Ground w) (a b c d : ByteArray) : StL w ((w.alloc (.cells #[.string a, .string b] 36)).alloc (.cells #[.string c, .string d] 36)) [(w.heap.size + 1, c, d), (w.heap.size, a, b)] := by
  have := (StL.one hG a b).alloc c d
  simpa using this
theorem StL.three (hG : Ground w) (a b c d e f : ByteArray) : StL w (((w.alloc (.cells #[.string a, .string b] 36)).alloc (.cells #[.string c, .string d] 36)).alloc (.cells #[.string e, .string f] 36)) [(w.heap.size + 1 + 1, e, f), (w.heap.size + 1, c, d), (w.heap.size, a, b)] := by
  have := (StL.two hG a b c d).alloc e f
  simpa using this
theorem addP_zero' (x : Int × Int) : addP x (0, 1) = low x := addP_zero
theorem frac_guards (x y : Operand) (a b c d : ByteArray) (W : World) : (eqGuard .eql 36 x y (.agg #[.string a, .string b]) (.agg #[.string c, .string d])).run Tryz.prog W = .ok () W := frac_guard _ _ _ _ _ _ _ _
theorem frac_guardn (x y : Operand) (a b c d : ByteArray) (W : World) : (eqGuard .neq 36 x y (.agg #[.string a, .string b]) (.agg #[.string c, .string d])).run Tryz.prog W = .ok () W := frac_guard _ _ _ _ _ _ _ _
theorem frac_nsame (a b : ByteArray) (W : World) : (binOp .neq 36 (.agg #[.string a, .string b]) (.agg #[.string a, .string b])).run Tryz.prog W = .ok (.bool false) W := frac_alike ⟨rfl, rfl⟩ W
theorem textP_size {k : Nat} {p : Int × Int} (h : CapP k p) : (textP p).size ≤ 2 * k + 5 := by
  have h1 := pS_size h.1
  have h2 := pS_size h.2
  unfold textP
  split
  · omega
  · rw [ByteArray.size_append, ByteArray.size_append]; show (pS p.1).size + 1 + (pS p.2).size ≤ _; omega

end Go.Proofs.YthhihdihkddakaaGreatDoor
