/- The law DecimalModes: what its loops carry along: the fraction's box and two lists of seven integers. -/
import Derived.Test.YtlonbfddhfacmaaGreatDoorDG
namespace Go.Proofs.YtlonbfddhfacmaaGreatDoor
open Go.RowKit Fra

/-- seven strings lie in block b -/
def Arr7 (W : World) (b : Nat) (us : List ByteArray) : Prop := W.heap[b]? = some (.cells (us.map Value.string).toArray 53 (0, 0))
theorem Arr7.lt {W : World} {b : Nat} {us : List ByteArray} (h : Arr7 W b us) : b < W.heap.size := by
  rcases Nat.lt_or_ge b W.heap.size with h' | h'
  · exact h'
  · unfold Arr7 at h; rw [Array.getElem?_eq_none h'] at h; simp at h
theorem Arr7.below {W W' : World} {b : Nat} {us : List ByteArray} (h : Arr7 W b us) (hb : Below W.heap.size W W') : Arr7 W' b us := by
  have hl := h.lt
  unfold Arr7 at *; rw [hb.block b hl]; exact h
theorem Arr7.cell {W : World} {b : Nat} {us : List ByteArray} (h : Arr7 W b us) {i : Nat} {u : ByteArray} (hu : us[i]? = some u) : W.cell? ⟨b, i, none⟩ = some (.string u) := by
  rw [cell_of_row W b i _ _ _ h]
  simp [hu]
theorem Arr7.frozen {W : World} {b : Nat} {us : List ByteArray} (h : Arr7 W b us) (i : Nat) : W.frozen? ⟨b, i, none⟩ = false := frozen_of_row W b i _ _ h
theorem Arr7.set {W : World} {b : Nat} {us : List ByteArray} (h : Arr7 W b us) (i : Nat) (u : ByteArray) : Arr7 (W.setCell ⟨b, i, none⟩ (.string u)) b (us.set i u) := by
  have := heap_setCell_same W b i _ _ (.string u) h
  unfold Arr7
  rw [this, List.map_set]
  simp
theorem Arr7.other {W : World} {b : Nat} {us : List ByteArray} (h : Arr7 W b us) {a : Addr} (hne : b ≠ a.block) (v : Value) : Arr7 (W.setCell a v) b us := by
  unfold Arr7 at *
  rw [Below.heap_setCell W a v b hne]; exact h

/-- the list, written up to place z -/
def upTo (a : Nat → ByteArray) (z : Nat) : List ByteArray := (List.range 7).map fun i => if 1 ≤ i ∧ i < z then a i else ⟨#[]⟩

structure StM (w W : World) (n d : ByteArray) (bl : Nat) (ls ms : List ByteArray) : Prop where
  g : Ground W
  below : Below w.heap.size w W
  f : PairAt W w.heap.size 24 n d
  l : Arr7 W bl ls
  m : Arr7 W (bl + 1) ms
  lo : w.heap.size < bl
variable {a c : Nat → ByteArray} {w W W1 : World} {n d : ByteArray} {bl : Nat} {ls ms : List ByteArray}
theorem StM.next (h : StM w W n d bl ls ms) (hb : Below W.heap.size W W1) : StM w W1 n d bl ls ms :=
  ⟨h.g.below hb, h.below.trans (hb.mono h.below.size), h.f.below hb, h.l.below hb, h.m.below hb, h.lo⟩
theorem StM.drewN (h : StM w W n d bl ls ms) (q : Nat) : StM w (W.drewN q) n d bl ls ms := ⟨⟨h.g.tab, h.g.max⟩, below_drewN h.below q, h.f, h.l, h.m, h.lo⟩
theorem StM.drew (h : StM w W n d bl ls ms) : StM w W.drew n d bl ls ms := h.drewN 1
theorem StM.next1 (h : StM w W n d bl ls ms) (hb : Below W.drew.heap.size W.drew W1) : StM w W1 n d bl ls ms := h.drew.next hb
theorem StM.nextD {q : Nat} (h : StM w W n d bl ls ms) (hb : Below (W.drewN q).heap.size (W.drewN q) W1) : StM w W1 n d bl ls ms := (h.drewN q).next hb
theorem StM.store (hG : Ground w) (h : StM w W n d bl ls ms) (i : Nat) (u v : ByteArray) : StM w ((W.setCell ⟨bl, i, none⟩ (.string u)).setCell ⟨bl + 1, i, none⟩ (.string v)) n d bl (ls.set i u) (ms.set i v) := by
  have hlo := h.lo
  have hb : Below w.heap.size w ((W.setCell ⟨bl, i, none⟩ (.string u)).setCell ⟨bl + 1, i, none⟩ (.string v)) :=
    (h.below.setCell (p := ⟨bl, i, none⟩) (Nat.le_of_lt hlo) _).setCell (p := ⟨bl + 1, i, none⟩) (show w.heap.size ≤ bl + 1 by omega) _
  refine ⟨hG.below hb, hb, ?_, ?_, ?_, hlo⟩
  · exact (h.f.setOther (a := ⟨bl, i, none⟩) (show w.heap.size ≠ bl by omega) _).setOther (a := ⟨bl + 1, i, none⟩) (show w.heap.size ≠ bl + 1 by omega) _
  · exact (h.l.set i u).other (a := ⟨bl + 1, i, none⟩) (show bl ≠ bl + 1 by omega) _
  · exact (h.m.other (a := ⟨bl, i, none⟩) (show bl + 1 ≠ bl by omega) _).set i v
theorem neg_ret {s : ByteArray} {z : Int} (hs : s.size ≤ 4294967295) (hz : vS s = z) : Ret 37 #[.string s] (.string (cS (-z))) := Ret.of_same fun W => neg_v W hs hz rfl

theorem StM.storeL (hG : Ground w) (h : StM w W n d bl ls ms) (i : Nat) (u : ByteArray) : StM w (W.setCell ⟨bl, i, none⟩ (.string u)) n d bl (ls.set i u) ms := by
  have hlo := h.lo
  have hb : Below w.heap.size w (W.setCell ⟨bl, i, none⟩ (.string u)) := h.below.setCell (p := ⟨bl, i, none⟩) (Nat.le_of_lt hlo) _
  exact ⟨hG.below hb, hb, h.f.setOther (a := ⟨bl, i, none⟩) (show w.heap.size ≠ bl by omega) _, h.l.set i u, h.m.other (a := ⟨bl, i, none⟩) (show bl + 1 ≠ bl by omega) _, hlo⟩
theorem StM.storeM (hG : Ground w) (h : StM w W n d bl ls ms) (i : Nat) (v : ByteArray) : StM w (W.setCell ⟨bl + 1, i, none⟩ (.string v)) n d bl ls (ms.set i v) := by
  have hlo := h.lo
  have hb : Below w.heap.size w (W.setCell ⟨bl + 1, i, none⟩ (.string v)) := h.below.setCell (p := ⟨bl + 1, i, none⟩) (show w.heap.size ≤ bl + 1 by omega) _
  exact ⟨hG.below hb, hb, h.f.setOther (a := ⟨bl + 1, i, none⟩) (show w.heap.size ≠ bl + 1 by omega) _, h.l.other (a := ⟨bl + 1, i, none⟩) (show bl ≠ bl + 1 by omega) _, h.m.set i v, hlo⟩
theorem upTo_set (a : Nat → ByteArray) {z : Nat} (h1 : 1 ≤ z) (h6 : z ≤ 6) : upTo a (z + 1) = (upTo a z).set z (a z) := by
  have h : z = 1 ∨ z = 2 ∨ z = 3 ∨ z = 4 ∨ z = 5 ∨ z = 6 := by omega
  rcases h with rfl | rfl | rfl | rfl | rfl | rfl <;> rfl
theorem upTo_at (a : Nat → ByteArray) {z : Nat} (h6 : z ≤ 6) : (upTo a z)[z]? = some ⟨#[]⟩ := by
  have h : z = 0 ∨ z = 1 ∨ z = 2 ∨ z = 3 ∨ z = 4 ∨ z = 5 ∨ z = 6 := by omega
  rcases h with rfl | rfl | rfl | rfl | rfl | rfl | rfl <;> rfl
theorem upTo_all (a : Nat → ByteArray) {z : Nat} (h1 : 1 ≤ z) (h6 : z ≤ 6) : (upTo a 7)[z]? = some (a z) := by
  have h : z = 1 ∨ z = 2 ∨ z = 3 ∨ z = 4 ∨ z = 5 ∨ z = 6 := by omega
  rcases h with rfl | rfl | rfl | rfl | rfl | rfl <;> rfl
theorem StM.begin {W : World} (h : StL w W [(w.heap.size, n, d)]) : StM w ((W.alloc (.cells ((List.replicate 7 (Value.string ⟨#[]⟩))).toArray 53)).alloc (.cells ((List.replicate 7 (Value.string ⟨#[]⟩))).toArray 53)) n d W.heap.size (upTo a 1) (upTo c 1) := by
  have h2 := (h.other (.cells ((List.replicate 7 (Value.string ⟨#[]⟩))).toArray 53)).other (.cells ((List.replicate 7 (Value.string ⟨#[]⟩))).toArray 53)
  have hl : Arr7 (W.alloc (.cells ((List.replicate 7 (Value.string ⟨#[]⟩))).toArray 53)) W.heap.size (upTo a 1) := heap_alloc_new W _
  refine ⟨h2.g, h2.below, h2.box.1, hl.below ((Below.refl _ _).alloc (Nat.le_refl _) _), ?_, h.box.1.lt⟩
  have hm := heap_alloc_new (W.alloc (.cells ((List.replicate 7 (Value.string ⟨#[]⟩))).toArray 53)) (.cells ((List.replicate 7 (Value.string ⟨#[]⟩))).toArray 53)
  rw [show (W.alloc (.cells ((List.replicate 7 (Value.string ⟨#[]⟩))).toArray 53)).heap.size = W.heap.size + 1 by simp] at hm
  exact hm

/-! ### The modes: plain facts -/
theorem rnd_five (x : Int × Int) : rnd 5 x = Int.fdiv x.1 x.2 := by
  unfold rnd rndR
  split
  · rfl
  · rw [if_neg (by omega)]
theorem rnd_six (x : Int × Int) : rnd 6 x = if rest x = 0 then Int.fdiv x.1 x.2 else Int.fdiv x.1 x.2 + 1 := by
  unfold rnd rndR
  by_cases h : rest x = 0
  · rw [if_pos h, if_pos h]
  · rw [if_neg h, if_neg h, if_pos (by omega)]
theorem high_ways (x : Int × Int) : rnd 6 x = rnd 5 x ∨ (rnd 6 x ≠ rnd 5 x ∧ rnd 5 x + 1 = rnd 6 x) := by
  rw [rnd_five, rnd_six]
  by_cases h : rest x = 0
  · rw [if_pos h]; exact Or.inl rfl
  · rw [if_neg h]; exact Or.inr ⟨by omega, rfl⟩
theorem mode_ways (m : Int) (x : Int × Int) : rnd m x = rnd 5 x ∨ (rnd m x ≠ rnd 5 x ∧ rnd m x = rnd 6 x) := by
  rw [rnd_five, rnd_six]
  unfold rnd rndR
  by_cases h : rest x = 0
  · rw [if_pos h]; exact Or.inl rfl
  · rw [if_neg h, if_neg h]
    split
    · exact Or.inr ⟨by omega, rfl⟩
    · exact Or.inl rfl
theorem away_neg {x : Int × Int} (hx : 0 < x.2) (h : cmpP x (0, 1) < 0) : rnd 4 x = rnd 5 x ∧ rnd 3 x = rnd 6 x := by
  have hq := (floor_sign hx).1 (cmpP_zero.1 h)
  rw [rnd_five, rnd_six]
  unfold rnd rndR
  by_cases h0 : rest x = 0
  · rw [if_pos h0, if_pos h0, if_pos h0]; exact ⟨rfl, rfl⟩
  · rw [if_neg h0, if_neg h0, if_neg h0, if_neg (by omega), if_pos (by omega)]; exact ⟨rfl, rfl⟩
theorem away_pos {x : Int × Int} (hx : 0 < x.2) (h : ¬ cmpP x (0, 1) < 0) : rnd 3 x = rnd 5 x ∧ rnd 4 x = rnd 6 x := by
  have hq : ¬ Int.fdiv x.1 x.2 < 0 := fun k => h (cmpP_zero.2 ((floor_sign hx).2 k))
  rw [rnd_five, rnd_six]
  unfold rnd rndR
  by_cases h0 : rest x = 0
  · rw [if_pos h0, if_pos h0, if_pos h0]; exact ⟨rfl, rfl⟩
  · rw [if_neg h0, if_neg h0, if_neg h0, if_neg (by omega), if_pos (by omega)]; exact ⟨rfl, rfl⟩
theorem neg_mode {x : Int × Int} (hx : 0 < x.2) {m : Int} (h1 : 1 ≤ m) (h4 : m ≤ 4) : - rnd m (negP x) = rnd m x := by
  have h := rnd_opp hx (m := m) ⟨h1, by omega⟩
  rw [show opp m = m by unfold opp; rw [if_neg (by omega), if_neg (by omega)]] at h
  omega
theorem neg_five {x : Int × Int} (hx : 0 < x.2) : - rnd 5 (negP x) = rnd 6 x := by
  have h := rnd_opp hx (m := 6) ⟨by decide, by decide⟩
  rw [show opp 6 = 5 by decide] at h
  omega
theorem neg_six {x : Int × Int} (hx : 0 < x.2) : - rnd 6 (negP x) = rnd 5 x := by
  have h := rnd_opp hx (m := 5) ⟨by decide, by decide⟩
  rw [show opp 5 = 6 by decide] at h
  omega

end Go.Proofs.YtlonbfddhfacmaaGreatDoor
