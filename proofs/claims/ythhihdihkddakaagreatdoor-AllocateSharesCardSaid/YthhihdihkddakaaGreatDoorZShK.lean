/- The program's layer 2: apply: the walks. -/
import Derived.Test.YthhihdihkddakaaGreatDoorZShE
import Derived.Test.YthhihdihkddakaaGreatDoorZShF
import Derived.Test.YthhihdihkddakaaGreatDoorZShI
import Derived.Test.YthhihdihkddakaaGreatDoorZShJ
import Derived.Deep.Cut
import Derived.Laws.EntriesVeiled
import Derived.Laws.StructEq
import Derived.Lib.CutLaws
namespace Go.Proofs.YthhihdihkddakaaGreatDoor
open Go.RowKit Fra

/-- the table of the operations lies in block b -/
def FunsAt (W : World) (b : Nat) (p q r s : Value) : Prop := W.heap[b]? = some (.cells #[p, q, r, s] 136 (0, 0))
theorem FunsAt.cells {W : World} {b : Nat} {p q r s : Value} (h : FunsAt W b p q r s) : W.cell? ⟨b, 0, none⟩ = some p ∧ W.cell? ⟨b, 1, none⟩ = some q ∧ W.cell? ⟨b, 2, none⟩ = some r ∧ W.cell? ⟨b, 3, none⟩ = some s ∧
    W.frozen? ⟨b, 0, none⟩ = false ∧ W.frozen? ⟨b, 1, none⟩ = false ∧ W.frozen? ⟨b, 2, none⟩ = false ∧ W.frozen? ⟨b, 3, none⟩ = false := by
  unfold FunsAt at h
  exact ⟨by rw [cell_of_row W b 0 _ _ _ h]; rfl, by rw [cell_of_row W b 1 _ _ _ h]; rfl, by rw [cell_of_row W b 2 _ _ _ h]; rfl, by rw [cell_of_row W b 3 _ _ _ h]; rfl, frozen_of_row W b 0 _ _ h, frozen_of_row W b 1 _ _ h, frozen_of_row W b 2 _ _ h, frozen_of_row W b 3 _ _ h⟩
theorem FunsAt.made (W : World) (p q r s : Value) : FunsAt (W.alloc (.cells #[p, q, r, s] 136)) W.heap.size p q r s := heap_alloc_new W _

/-- the boxes of apply and its table of operations, behind some calls -/
structure StA (w W : World) (N : Nat) (a b c d : ByteArray) : Prop where
  st : St2 w W 36 97 a b c d
  tab : FunsAt W N (.func (.func 142) #[] #[]) (.func (.func 143) #[] #[]) (.func (.func 144) #[] #[]) (.func (.func 145) #[] #[])
theorem FunsAt.below {W W' : World} {b : Nat} {p q r s : Value} (h : FunsAt W b p q r s) (hb : Below W.heap.size W W') : FunsAt W' b p q r s := by
  unfold FunsAt at *
  have hl : b < W.heap.size := by
    rcases Nat.lt_or_ge b W.heap.size with h' | h'
    · exact h'
    · rw [Array.getElem?_eq_none h'] at h; simp at h
  rw [hb.block b hl]; exact h
theorem StA.next {w W W1 : World} {N : Nat} {a b c d : ByteArray} (h : StA w W N a b c d) (hb : Below W.heap.size W W1) : StA w W1 N a b c d := ⟨h.st.next hb, h.tab.below hb⟩
theorem StA.drewN {w W : World} {N : Nat} {a b c d : ByteArray} (h : StA w W N a b c d) (q : Nat) : StA w (W.drewN q) N a b c d := ⟨h.st.drewN q, h.tab⟩
theorem StA.drew {w W : World} {N : Nat} {a b c d : ByteArray} (h : StA w W N a b c d) : StA w W.drew N a b c d := h.drewN 1
theorem StA.next1 {w W W1 : World} {N : Nat} {a b c d : ByteArray} (h : StA w W N a b c d) (hb : Below W.drew.heap.size W.drew W1) : StA w W1 N a b c d := h.drew.next hb
theorem StA.nextD {w W W1 : World} {N q : Nat} {a b c d : ByteArray} (h : StA w W N a b c d) (hb : Below (W.drewN q).heap.size (W.drewN q) W1) : StA w W1 N a b c d := (h.drewN q).next hb
theorem StA.made {w W0 : World} {a b c d : ByteArray} (h : St2 w W0 36 97 a b c d) :
    StA w (W0.alloc (.cells #[.func (.func 142) #[] #[], .func (.func 143) #[] #[], .func (.func 144) #[] #[], .func (.func 145) #[] #[]] 136)) W0.heap.size a b c d :=
  ⟨h.next ((Below.refl _ _).alloc (Nat.le_refl _) _), FunsAt.made _ _ _ _ _⟩
end Go.Proofs.YthhihdihkddakaaGreatDoor

/- The program's layer 2: apply at integers, Add, Sub, Mul, Neg, Of, New, Quo: the walks. -/
namespace Go.Proofs.YthhihdihkddakaaGreatDoor
open Go.RowKit Fra

/-- the variable of a result and the table of operations, behind some calls -/
structure StI (w W : World) (N : Nat) : Prop where
  g : Ground W
  r : PairAt W w.heap.size 97 ⟨#[]⟩ ⟨#[]⟩
  tab : FunsAt W N (.func (.func 142) #[] #[]) (.func (.func 143) #[] #[]) (.func (.func 144) #[] #[]) (.func (.func 145) #[] #[])
  below : Below w.heap.size w W
theorem StI.next {w W W1 : World} {N : Nat} (h : StI w W N) (hb : Below W.heap.size W W1) : StI w W1 N := ⟨h.g.below hb, h.r.below hb, h.tab.below hb, h.below.trans (hb.mono h.below.size)⟩
theorem StI.drewN {w W : World} {N : Nat} (h : StI w W N) (q : Nat) : StI w (W.drewN q) N := ⟨(h.g.drewN q), h.r, h.tab, below_drewN h.below q⟩
theorem StI.drew {w W : World} {N : Nat} (h : StI w W N) : StI w W.drew N := h.drewN 1
theorem StI.next1 {w W W1 : World} {N : Nat} (h : StI w W N) (hb : Below W.drew.heap.size W.drew W1) : StI w W1 N := h.drew.next hb
theorem StI.nextD {w W W1 : World} {N q : Nat} (h : StI w W N) (hb : Below (W.drewN q).heap.size (W.drewN q) W1) : StI w W1 N := (h.drewN q).next hb

end Go.Proofs.YthhihdihkddakaaGreatDoor

/- The program's layer 2: Neg, Of, New, Quo, Compare: the walks. -/
namespace Go.Proofs.YthhihdihkddakaaGreatDoor
open Go.RowKit Fra

/-- a box, and the variable of a result, behind some calls -/
structure St1 (w W : World) (s t : TypeId) (a b : ByteArray) : Prop where
  g : Ground W
  x : PairAt W w.heap.size s a b
  r : PairAt W (w.heap.size + 1) t ⟨#[]⟩ ⟨#[]⟩
  below : Below w.heap.size w W
theorem St1.next {w W W1 : World} {s t : TypeId} {a b : ByteArray} (h : St1 w W s t a b) (hb : Below W.heap.size W W1) : St1 w W1 s t a b :=
  ⟨h.g.below hb, h.x.below hb, h.r.below hb, h.below.trans (hb.mono h.below.size)⟩
theorem St1.made {w : World} (hG : Ground w) (s t : TypeId) (a b : ByteArray) : St1 w ((w.alloc (.cells #[.string a, .string b] s)).alloc (.cells #[.string ⟨#[]⟩, .string ⟨#[]⟩] t)) s t a b :=
  ⟨hG.below (below_two _ _ _), (Box1.made w s t a b).x, (Box1.made w s t a b).r, below_two _ _ _⟩

theorem raw_nil : raw ⟨#[]⟩ ⟨#[]⟩ = (0, 1) := by decide +kernel
theorem red_one (x : Int) : red x 1 = (x, 1) := red_lowest (by simp)
end Go.Proofs.YthhihdihkddakaaGreatDoor

/- The program's layer 2: Quo, Compare, Floor, Parts, Check: the walks. -/
namespace Go.Proofs.YthhihdihkddakaaGreatDoor
open Go.RowKit Fra

/-! ### Fractions compared with == -/
theorem frac_guard (op : BinOp) (x y : Operand) (a b c d : ByteArray) (W : World) : (eqGuard op 36 x y (.agg #[.string a, .string b]) (.agg #[.string c, .string d])).run Tryz.prog W = .ok () W :=
  run_eqGuard_agg W op _ x y _ _ (by kernel_rfl)
theorem frac_equal (a b c d : ByteArray) (W : World) : (Op.equalIn 10000 36 (.agg #[.string a, .string b]) (.agg #[.string c, .string d])).run Tryz.prog W = .ok (a.toList == c.toList && b.toList == d.toList) W := by
  rw [run_equalIn_agg W 9999 36 _ _ (by kernel_rfl) (by kernel_rfl)]
  have hf : (Tryz.prog.fieldsOf 36).toList = [⟨"Num", 22, 0, false, "", "", 0⟩, ⟨"Den", 22, 1, false, "", "", 16⟩] := by kernel_rfl
  rw [hf]
  simp [Op.eqFields, go_sem]
  by_cases h1 : a.toList = c.toList
  · by_cases h2 : b.toList = d.toList
    · simp [h1, h2]
    · rw [if_pos h1, if_neg h2]; simp [h2]
  · rw [if_neg h1]; simp [h1]
theorem frac_neq (a b c d : ByteArray) (W : World) : (binOp .neq 36 (.agg #[.string a, .string b]) (.agg #[.string c, .string d])).run Tryz.prog W = .ok (.bool (!(a.toList == c.toList && b.toList == d.toList))) W := by
  rw [run_neq_struct, frac_equal]; rfl
theorem frac_other {a b c d : ByteArray} (h : ¬ (a = c ∧ b = d)) : (a.toList == c.toList && b.toList == d.toList) = false := by
  rw [beq_toList, beq_toList, Bool.and_eq_false_iff]
  by_cases h1 : a = c
  · exact .inr (decide_eq_false (fun h2 => h ⟨h1, h2⟩))
  · exact .inl (decide_eq_false h1)
theorem frac_differ {a b c d : ByteArray} (h : ¬ (a = c ∧ b = d)) (W : World) : (binOp .neq 36 (.agg #[.string a, .string b]) (.agg #[.string c, .string d])).run Tryz.prog W = .ok (.bool true) W := by
  rw [frac_neq, frac_other h]; rfl
theorem frac_alike {a b c d : ByteArray} (h : a = c ∧ b = d) (W : World) : (binOp .neq 36 (.agg #[.string a, .string b]) (.agg #[.string c, .string d])).run Tryz.prog W = .ok (.bool false) W := by
  rw [frac_neq, h.1, h.2]; simp
/-- a box behind some calls -/
structure StX (w W : World) (s : TypeId) (a b : ByteArray) : Prop where
  g : Ground W
  x : PairAt W w.heap.size s a b
  below : Below w.heap.size w W
theorem StX.next {w W W1 : World} {s : TypeId} {a b : ByteArray} (h : StX w W s a b) (hb : Below W.heap.size W W1) : StX w W1 s a b := ⟨h.g.below hb, h.x.below hb, h.below.trans (hb.mono h.below.size)⟩
theorem StX.drewN {w W : World} {s : TypeId} {a b : ByteArray} (h : StX w W s a b) (q : Nat) : StX w (W.drewN q) s a b := ⟨(h.g.drewN q), h.x, below_drewN h.below q⟩
theorem StX.drew {w W : World} {s : TypeId} {a b : ByteArray} (h : StX w W s a b) : StX w W.drew s a b := h.drewN 1
theorem StX.next1 {w W W1 : World} {s : TypeId} {a b : ByteArray} (h : StX w W s a b) (hb : Below W.drew.heap.size W.drew W1) : StX w W1 s a b := h.drew.next hb
theorem StX.nextD {w W W1 : World} {q : Nat} {s : TypeId} {a b : ByteArray} (h : StX w W s a b) (hb : Below (W.drewN q).heap.size (W.drewN q) W1) : StX w W1 s a b := (h.drewN q).next hb
theorem StX.made {w : World} (hG : Ground w) (s : TypeId) (a b : ByteArray) : StX w (w.alloc (.cells #[.string a, .string b] s)) s a b :=
  have hB : Below w.heap.size w (w.alloc (.cells #[.string a, .string b] s)) := (Below.refl _ _).alloc (Nat.le_refl _) _
  ⟨hG.below hB, PairAt.made w s a b, hB⟩

set_option maxRecDepth 100000 in
set_option maxHeartbeats 2000000 in
theorem fFloor_any (n d : ByteArray) (w : World) (hG : Ground w) (ha : n.size ≤ 100000) (hb : d.size ≤ 100000) :
    Calls Tryz.prog 46 #[.agg #[.string n, .string d]] w (StrPost w (Int.fdiv (raw n d).1 (raw n d).2)) := by
  have HP := Lib.hid (raw_pos n d)
  obtain ⟨W0, hW0⟩ : ∃ W0, W0 = w.alloc (.cells #[.string n, .string d] 36) := ⟨_, rfl⟩
  have hB0 : Below w.heap.size w W0 := by rw [hW0]; exact (Below.refl _ _).alloc (Nat.le_refl _) _
  go_enter Tryz.func46, Tryz.ntmps46
  go_wp2_with fail
  rw [← hW0]
  clear hW0
  refine (fValue_any n d W0 100001 (by omega) (by omega) (by decide)).mono ?_
  rintro _ w1 ⟨p, q, rfl, e1, e2, e3, e4, hB1⟩
  have hB := hB0.trans (hB1.mono hB0.size)
  have HE1 := Lib.hid e1
  have HE2 := Lib.hid e2
  clear hB1 hB0 e1 e2
  go_wp2_with fail
  obtain ⟨W2, hW2⟩ : ∃ W2, W2 = w1.alloc (.cells #[.string p, .string q] 97) := ⟨_, rfl⟩
  have hB2 : Below w.heap.size w W2 := by rw [hW2]; exact hB.alloc hB.size _
  rw [← hW2]
  clear hW2 hB
  refine (div_v (q := Int.fdiv (raw n d).1 (raw n d).2) W2 (hG.below hB2) (by omega) (by omega) HE1.out HE2.out (by have := HP.out; omega) rfl rfl).mono ?_
  rintro _ w3 ⟨rfl, hB3⟩
  have hB' := hB2.trans (hB3.mono hB2.size)
  clear hB2 hB3
  go_wp2_with fail
  go_ret
  exact ⟨rfl, hB'⟩

set_option maxRecDepth 100000 in
set_option maxHeartbeats 2000000 in
theorem fParts_any (n d : ByteArray) (w : World) (hG : Ground w) (ha : n.size ≤ 100000) (hb : d.size ≤ 100000) :
    Calls Tryz.prog 123 #[.agg #[.string n, .string d]] w fun r w' => r = .returned (.tuple #[.string (cS (low (raw n d)).1), .string (cS (low (raw n d)).2)]) ∧ Below w.heap.size w w' := by
  have HP := Lib.hid (raw_pos n d)
  obtain ⟨W0, hW0⟩ : ∃ W0, W0 = w.alloc (.cells #[.string n, .string d] 36) := ⟨_, rfl⟩
  have hB0 : Below w.heap.size w W0 := by rw [hW0]; exact (Below.refl _ _).alloc (Nat.le_refl _) _
  go_enter Tryz.func123, Tryz.ntmps123
  go_wp2_with fail
  rw [← hW0]
  clear hW0
  refine (fValue_any n d W0 100001 (by omega) (by omega) (by decide)).mono ?_
  rintro _ w1 ⟨p, q, rfl, e1, e2, e3, e4, hB1⟩
  have hB := hB0.trans (hB1.mono hB0.size)
  have HE1 := Lib.hid e1
  have HE2 := Lib.hid e2
  clear hB1 hB0 e1 e2
  go_wp2_with fail
  refine (fLowest_v w1 (hG.below hB) (by omega) (by omega) HE1.out HE2.out HP.out).mono ?_
  rintro _ w2 ⟨rfl, hB2⟩
  have hB' := hB.trans (hB2.mono hB.size)
  clear hB hB2
  go_wp2_with fail
  go_region
  all_goals go_wp2_with fail
  all_goals go_ret2
  all_goals exact ⟨rfl, below_drewN (hB'.alloc hB'.size _) 1⟩

set_option maxRecDepth 100000 in
set_option maxHeartbeats 2000000 in
theorem fCheck_ok (n d : ByteArray) (w : World) (hG : Ground w) (ha : n.size ≤ 100000) (hb : d.size ≤ 100000) (hq : cS (low (raw n d)).1 = n ∧ cD (low (raw n d)).2 = d) :
    Calls Tryz.prog 129 #[.agg #[.string n, .string d]] w fun r w' => r = .returned (.int .i64 0) ∧ Below w.heap.size w w' := by
  have HP := Lib.hid (raw_pos n d)
  obtain ⟨W0, hW0⟩ : ∃ W0, W0 = w.alloc (.cells #[.string n, .string d] 36) := ⟨_, rfl⟩
  have hS : StX w W0 36 n d := by rw [hW0]; exact StX.made hG _ _ _
  go_enter Tryz.func129, Tryz.ntmps129
  go_wp2_with fail
  rw [← hW0]
  clear hW0
  obtain ⟨c0, c1, _, _⟩ := hS.x.cells
  have hg := frac_guard .neq (.tmp 5) (.tmp 6) (cS (red (raw n d).1 (raw n d).2).1) (cD (red (raw n d).1 (raw n d).2).2) n d
  have hq := frac_alike (a := cS (red (raw n d).1 (raw n d).2).1) (b := cD (red (raw n d).1 (raw n d).2).2) (c := n) (d := d) hq
  have HS := Lib.hid hS
  clear hS hG
  go_region_held3 (fun w' => w'.cell? ⟨w.heap.size, 0, none⟩ = some (.string n) ∧ w'.cell? ⟨w.heap.size, 1, none⟩ = some (.string d))
    (go_keep)
    (first
    | (go_at_call 97;
         (with_reducible refine Calls.mono (fValue_any n d _ 100001 (by omega) (by omega) (by decide)) ?_);
         (rintro e W1 ⟨p, q, rfl, e1, e2, e3, e4, hB1⟩);
         (have P1 := Lib.hid (And.intro (And.intro e1 e2) (And.intro e3 e4)));
         (have HS2 : StX w W1 _ n d := (by first | exact HS.out.next hB1 | exact HS.out.next1 hB1 | exact HS.out.nextD hB1));
         (replace HS := Lib.hid HS2);
         (clear hB1 HS2 e1 e2 e3 e4);
         (obtain ⟨c0, c1, _, _⟩ := HS.out.x.cells))
    | (go_at_call 92;
         (with_reducible refine Calls.mono (fCanonical_v (a := p) (b := q) _ (by first | exact HS.out.g | exact HS.out.drew.g | exact (HS.out.drewN _).g) (Nat.le_trans P1.out.2.1 (by decide)) (Nat.le_trans P1.out.2.2 (by decide)) P1.out.1.1 P1.out.1.2 HP.out) ?_);
         (rintro e W1 ⟨rfl, hB1⟩);
         (have HS2 : StX w W1 _ n d := (by first | exact HS.out.next hB1 | exact HS.out.next1 hB1 | exact HS.out.nextD hB1));
         (replace HS := Lib.hid HS2);
         (clear hB1 HS2);
         (obtain ⟨c0, c1, _, _⟩ := HS.out.x.cells)))
  all_goals go_wp2_with fail
  all_goals go_ret
  all_goals exact ⟨rfl, HS.out.below⟩

set_option maxRecDepth 100000 in
set_option maxHeartbeats 2000000 in
theorem fCheck_bad (n d : ByteArray) (w : World) (hG : Ground w) (ha : n.size ≤ 100000) (hb : d.size ≤ 100000) (hq : ¬ (cS (low (raw n d)).1 = n ∧ cD (low (raw n d)).2 = d)) :
    Calls Tryz.prog 129 #[.agg #[.string n, .string d]] w fun r w' => r = .returned (.int .i64 1) ∧ Below w.heap.size w w' := by
  have HP := Lib.hid (raw_pos n d)
  obtain ⟨W0, hW0⟩ : ∃ W0, W0 = w.alloc (.cells #[.string n, .string d] 36) := ⟨_, rfl⟩
  have hS : StX w W0 36 n d := by rw [hW0]; exact StX.made hG _ _ _
  go_enter Tryz.func129, Tryz.ntmps129
  go_wp2_with fail
  rw [← hW0]
  clear hW0
  obtain ⟨c0, c1, _, _⟩ := hS.x.cells
  have hg := frac_guard .neq (.tmp 5) (.tmp 6) (cS (red (raw n d).1 (raw n d).2).1) (cD (red (raw n d).1 (raw n d).2).2) n d
  have hq := frac_differ (a := cS (red (raw n d).1 (raw n d).2).1) (b := cD (red (raw n d).1 (raw n d).2).2) (c := n) (d := d) hq
  have HS := Lib.hid hS
  clear hS hG
  go_region_held3 (fun w' => w'.cell? ⟨w.heap.size, 0, none⟩ = some (.string n) ∧ w'.cell? ⟨w.heap.size, 1, none⟩ = some (.string d))
    (go_keep)
    (first
    | (go_at_call 97;
         (with_reducible refine Calls.mono (fValue_any n d _ 100001 (by omega) (by omega) (by decide)) ?_);
         (rintro e W1 ⟨p, q, rfl, e1, e2, e3, e4, hB1⟩);
         (have P1 := Lib.hid (And.intro (And.intro e1 e2) (And.intro e3 e4)));
         (have HS2 : StX w W1 _ n d := (by first | exact HS.out.next hB1 | exact HS.out.next1 hB1 | exact HS.out.nextD hB1));
         (replace HS := Lib.hid HS2);
         (clear hB1 HS2 e1 e2 e3 e4);
         (obtain ⟨c0, c1, _, _⟩ := HS.out.x.cells))
    | (go_at_call 92;
         (with_reducible refine Calls.mono (fCanonical_v (a := p) (b := q) _ (by first | exact HS.out.g | exact HS.out.drew.g | exact (HS.out.drewN _).g) (Nat.le_trans P1.out.2.1 (by decide)) (Nat.le_trans P1.out.2.2 (by decide)) P1.out.1.1 P1.out.1.2 HP.out) ?_);
         (rintro e W1 ⟨rfl, hB1⟩);
         (have HS2 : StX w W1 _ n d := (by first | exact HS.out.next hB1 | exact HS.out.next1 hB1 | exact HS.out.nextD hB1));
         (replace HS := Lib.hid HS2);
         (clear hB1 HS2);
         (obtain ⟨c0, c1, _, _⟩ := HS.out.x.cells)))
  all_goals go_wp2_with fail
  all_goals go_ret
  all_goals exact ⟨rfl, HS.out.below⟩

end Go.Proofs.YthhihdihkddakaaGreatDoor

/- The program's layer 2: text, Print, Power: the walks. -/
namespace Go.Proofs.YthhihdihkddakaaGreatDoor
open Go.RowKit Fra

/-! ### Powers -/
theorem PairAt.set0 {W : World} {b : Nat} {t : TypeId} {x y : ByteArray} (h : PairAt W b t x y) (u : ByteArray) : PairAt (W.setCell ⟨b, 0, none⟩ (.string u)) b t u y := by
  have h1 := heap_setCell_same W b 0 _ _ (.string u) h
  unfold PairAt; rw [h1]; rfl
theorem PairAt.set1 {W : World} {b : Nat} {t : TypeId} {x y : ByteArray} (h : PairAt W b t x y) (u : ByteArray) : PairAt (W.setCell ⟨b, 1, none⟩ (.string u)) b t x u := by
  have h1 := heap_setCell_same W b 1 _ _ (.string u) h
  unfold PairAt; rw [h1]; rfl
theorem PairAt.setOther {W : World} {b : Nat} {t : TypeId} {x y : ByteArray} (h : PairAt W b t x y) {a : Addr} (hne : b ≠ a.block) (u : Value) : PairAt (W.setCell a u) b t x y := by
  unfold PairAt at *; rw [Below.heap_setCell W a u b hne]; exact h

end Go.Proofs.YthhihdihkddakaaGreatDoor

/- The program's layer 2: Power with a negative exponent: the walk. -/
namespace Go.Proofs.YthhihdihkddakaaGreatDoor
open Go.RowKit Fra

theorem St1.drewN {w W : World} {s t : TypeId} {a b : ByteArray} (h : St1 w W s t a b) (q : Nat) : St1 w (W.drewN q) s t a b := ⟨(h.g.drewN q), h.x, h.r, below_drewN h.below q⟩
theorem St1.drew {w W : World} {s t : TypeId} {a b : ByteArray} (h : St1 w W s t a b) : St1 w W.drew s t a b := h.drewN 1
theorem St1.next1 {w W W1 : World} {s t : TypeId} {a b : ByteArray} (h : St1 w W s t a b) (hb : Below W.drew.heap.size W.drew W1) : St1 w W1 s t a b := h.drew.next hb
theorem St1.nextD {w W W1 : World} {q : Nat} {s t : TypeId} {a b : ByteArray} (h : St1 w W s t a b) (hb : Below (W.drewN q).heap.size (W.drewN q) W1) : St1 w W1 s t a b := (h.drewN q).next hb
theorem St1.alloc {w W : World} {s t : TypeId} {a b : ByteArray} (h : St1 w W s t a b) (o : Obj) : St1 w (W.alloc o) s t a b := h.next ((Below.refl _ _).alloc (Nat.le_refl _) _)
theorem St1.room {w W : World} {s t : TypeId} {a b : ByteArray} (h : St1 w W s t a b) : w.heap.size + 2 ≤ W.heap.size := by have := h.r.lt; omega
end Go.Proofs.YthhihdihkddakaaGreatDoor

/- The program's layer 2: Parse: the walk, by the contract of strings.Cut. -/
namespace Go.Proofs.YthhihdihkddakaaGreatDoor
open Go.RowKit Fra

/-! ### Where the first slash stands -/
def slash (l : List UInt8) : Nat := (l.takeWhile (· != 47)).length
end Go.Proofs.YthhihdihkddakaaGreatDoor

/- The contracts of the program's functions of layer 2, by values; the laws' awake. -/
namespace Go.Proofs.YthhihdihkddakaaGreatDoor
open Go.RowKit Fra

/-- two strings with a value, of a size that every function bears -/
def Val (n d : ByteArray) (x : Int × Int) : Prop := raw n d = x ∧ n.size ≤ 99998 ∧ d.size ≤ 99998
theorem Val.pos {n d : ByteArray} {x : Int × Int} (h : Val n d x) : 0 < x.2 := by rw [← h.1]; exact raw_pos _ _
theorem Val.of {k : Nat} {p : Int × Int} (h : CapP k p) (hp : 0 < p.2) (hk : k ≤ 99997) : Val (cS p.1) (cD p.2) p :=
  ⟨raw_can hp, by have := cS_size h.1; omega, by have := cD_size h.2; omega⟩
theorem Val.zero : Val ⟨#[]⟩ ⟨#[]⟩ (0, 1) := ⟨raw_nil, by decide, by decide⟩
theorem CapP.zero {k : Nat} (h : 1 ≤ k) : CapP k (0, 1) := ⟨by unfold Cap; have := Nat.pow_pos (n := k) (show 0 < 10 by decide); exact this, Cap.one h⟩
/-- a fraction that the law is given -/
structure Giv (k : Nat) (n d : ByteArray) (x : Int × Int) : Prop where
  eq : raw n d = x
  num : n.size ≤ k
  den : d.size ≤ k
theorem Giv.arg {k : Nat} {n d : ByteArray} {x : Int × Int} (h : Giv k n d x) (hk : k ≤ 99998) : Val n d x := ⟨h.eq, Nat.le_trans h.num hk, Nat.le_trans h.den hk⟩
theorem Giv.cap {k : Nat} {n d : ByteArray} {x : Int × Int} (h : Giv k n d x) (hk : 1 ≤ k) : CapP k x := by rw [← h.eq]; exact CapP.of_raw hk h.num h.den
theorem Giv.pos {k : Nat} {n d : ByteArray} {x : Int × Int} (h : Giv k n d x) : 0 < x.2 := by rw [← h.eq]; exact raw_pos _ _

theorem le_k {n : Nat} (h : n ≤ 99998) : n ≤ 100000 := by omega
section
variable {n d m e : ByteArray} {x y z : Int × Int} (w : World) (hG : Ground w)
include hG
theorem fParts_v (h1 : Val n d x) (hz : low x = z) : Calls Tryz.prog 123 #[.agg #[.string n, .string d]] w fun r w' => r = .returned (.tuple #[.string (cS z.1), .string (cS z.2)]) ∧ Below w.heap.size w w' := by
  rw [← hz, ← h1.1]; exact fParts_any n d w hG (le_k h1.2.1) (le_k h1.2.2)
/-! ### The chapter's examples -/
end

end Go.Proofs.YthhihdihkddakaaGreatDoor

/- What the walks of the laws of layer 2 carry along: the boxes of fractions. -/
namespace Go.Proofs.YthhihdihkddakaaGreatDoor
open Go.RowKit Fra

/-- fractions lie in these blocks -/
def Boxes (W : World) : List (Nat × ByteArray × ByteArray) → Prop
  | [] => True
  | x :: r => PairAt W x.1 36 x.2.1 x.2.2 ∧ Boxes W r
theorem Boxes.below {W W' : World} (hb : Below W.heap.size W W') : ∀ {L : List (Nat × ByteArray × ByteArray)}, Boxes W L → Boxes W' L
  | [], _ => trivial
  | _ :: _, h => ⟨h.1.below hb, Boxes.below hb h.2⟩
theorem Boxes.drewN {W : World} (q : Nat) : ∀ {L : List (Nat × ByteArray × ByteArray)}, Boxes W L → Boxes (W.drewN q) L
  | [], _ => trivial
  | _ :: _, h => ⟨h.1, Boxes.drewN q h.2⟩
structure StL (w W : World) (L : List (Nat × ByteArray × ByteArray)) : Prop where
  g : Ground W
  below : Below w.heap.size w W
  box : Boxes W L
  nd : L.Pairwise fun x y => x.1 ≠ y.1
  lo : ∀ x ∈ L, w.heap.size ≤ x.1
variable {w W W1 : World} {L : List (Nat × ByteArray × ByteArray)}
theorem Boxes.lt : ∀ {L : List (Nat × ByteArray × ByteArray)}, Boxes W L → ∀ x ∈ L, x.1 < W.heap.size
  | [], _, _, h => by simp at h
  | y :: r, hb, x, h => by
    rcases List.mem_cons.1 h with e | e
    · subst e; exact hb.1.lt
    · exact Boxes.lt hb.2 x e
theorem StL.next (h : StL w W L) (hb : Below W.heap.size W W1) : StL w W1 L := ⟨h.g.below hb, h.below.trans (hb.mono h.below.size), h.box.below hb, h.nd, h.lo⟩
theorem StL.drewN (h : StL w W L) (q : Nat) : StL w (W.drewN q) L := ⟨(h.g.drewN q), below_drewN h.below q, h.box.drewN q, h.nd, h.lo⟩
theorem StL.drew (h : StL w W L) : StL w W.drew L := h.drewN 1
theorem StL.next1 (h : StL w W L) (hb : Below W.drew.heap.size W.drew W1) : StL w W1 L := h.drew.next hb
theorem StL.nextD {q : Nat} (h : StL w W L) (hb : Below (W.drewN q).heap.size (W.drewN q) W1) : StL w W1 L := (h.drewN q).next hb
theorem StL.other (h : StL w W L) (o : Obj) : StL w (W.alloc o) L := h.next ((Below.refl _ _).alloc (Nat.le_refl _) _)
theorem StL.alloc (h : StL w W L) (u v : ByteArray) : StL w (W.alloc (.cells #[.string u, .string v] 36)) ((W.heap.size, u, v) :: L) :=
  ⟨(h.other _).g, (h.other _).below, ⟨PairAt.made W _ u v, (h.other _).box⟩, List.pairwise_cons.2 ⟨fun x hx => by have := h.box.lt x hx; show W.heap.size ≠ x.1; omega, h.nd⟩, fun x hx => by
    rcases List.mem_cons.1 hx with e | e
    · subst e; exact h.below.size
    · exact h.lo x e⟩
theorem Boxes.setOther {a : Addr} {u : Value} : ∀ {L : List (Nat × ByteArray × ByteArray)}, (∀ x ∈ L, x.1 ≠ a.block) → Boxes W L → Boxes (W.setCell a u) L
  | [], _, _ => trivial
  | x :: r, hn, h => ⟨h.1.setOther (hn x (by simp)) u, Boxes.setOther (fun y hy => hn y (by simp [hy])) h.2⟩
theorem StL.fill (hG : Ground w) {b : Nat} {x y : ByteArray} (h : StL w W ((b, x, y) :: L)) (u v : ByteArray) : StL w ((W.setCell ⟨b, 0, none⟩ (.string u)).setCell ⟨b, 1, none⟩ (.string v)) ((b, u, v) :: L) := by
  have hlo : w.heap.size ≤ b := h.lo (b, x, y) (by simp)
  have hne := (List.pairwise_cons.1 h.nd).1
  have hb := below_put h.below hlo (.string u) (.string v)
  refine ⟨hG.below hb, hb, ⟨h.box.1.put u v, ?_⟩, List.pairwise_cons.2 ⟨hne, (List.pairwise_cons.1 h.nd).2⟩, fun z hz => ?_⟩
  · exact Boxes.setOther (fun z hz => (hne z hz).symm) (Boxes.setOther (fun z hz => (hne z hz).symm) h.box.2)
  · rcases List.mem_cons.1 hz with e | e
    · subst e; exact hlo
    · exact h.lo z (by simp [e])
theorem StL.swap {x y : Nat × ByteArray × ByteArray} (h : StL w W (x :: y :: L)) : StL w W (y :: x :: L) := by
  have h1 := List.pairwise_cons.1 h.nd
  have h2 := List.pairwise_cons.1 h1.2
  refine ⟨h.g, h.below, ⟨h.box.2.1, h.box.1, h.box.2.2⟩, List.pairwise_cons.2 ⟨fun z hz => ?_, List.pairwise_cons.2 ⟨fun z hz => h1.1 z (by simp [hz]), h2.2⟩⟩, fun z hz => h.lo z (by
    simp at hz ⊢
    rcases hz with e | e | e
    · exact .inr (.inl e)
    · exact .inl e
    · exact .inr (.inr e))⟩
  rcases List.mem_cons.1 hz with e | e
  · subst e; exact (h1.1 y (by simp)).symm
  · exact h2.1 z e
theorem StL.zero (hG : Ground w) : StL w w [] := ⟨hG, Below.refl _ _, trivial, .nil, fun _ h => by simp at h⟩
theorem StL.alloc2 (h : StL w W L) (u v a b : ByteArray) : StL w ((W.alloc (.cells #[.string u, .string v] 36)).alloc (.cells #[.string a, .string b] 36)) ((W.heap.size + 1, a, b) :: (W.heap.size, u, v) :: L) := by
  have := (h.alloc u v).alloc a b
  simpa using this
theorem StL.one (hG : Ground w) (a b : ByteArray) : StL w (w.alloc (.cells #[.string a, .string b] 36)) [(w.heap.size, a, b)] := (StL.zero hG).alloc a b
theorem StL.two (hG : Ground w) (a b c d : ByteArray) : StL w ((w.alloc (.cells #[.string a, .string b] 36)).alloc (.cells #[.string c, .string d] 36)) [(w.heap.size + 1, c, d), (w.heap.size, a, b)] := by
  have := (StL.one hG a b).alloc c d
  simpa using this
theorem StL.three (hG : Ground w) (a b c d e f : ByteArray) : StL w (((w.alloc (.cells #[.string a, .string b] 36)).alloc (.cells #[.string c, .string d] 36)).alloc (.cells #[.string e, .string f] 36)) [(w.heap.size + 1 + 1, e, f), (w.heap.size + 1, c, d), (w.heap.size, a, b)] := by
  have := (StL.two hG a b c d).alloc e f
  simpa using this
theorem frac_guardn (x y : Operand) (a b c d : ByteArray) (W : World) : (eqGuard .neq 36 x y (.agg #[.string a, .string b]) (.agg #[.string c, .string d])).run Tryz.prog W = .ok () W := frac_guard _ _ _ _ _ _ _ _
end Go.Proofs.YthhihdihkddakaaGreatDoor

/- The reference implementation of layer 2: one, zero, exact, Raw, reduced, Canonical: the walks. -/
namespace Go.Proofs.YthhihdihkddakaaGreatDoor
open Go.RowKit Fra

theorem qOne (w : World) : Calls Tryz.prog 109 #[] w fun e w' => e = .returned (.string ⟨#[49]⟩) ∧ w = w' := by
  go_enter Tryz.func109, Tryz.ntmps109
  go_wp2_with fail
  refine (rOf_any 1 w (by decide) (by decide)).mono ?_
  rintro _ _ ⟨rfl, rfl⟩
  rw [cS_one]
  go_wp2_with fail
  go_ret
  exact ⟨rfl, rfl⟩

theorem qZero {s : ByteArray} {x : Int} (w : World) (hs : s.size ≤ 4294967296) (hx : vS s = x) :
    Calls Tryz.prog 117 #[.string s] w fun e w' => e = .returned (.bool (decide (x = 0))) ∧ w = w' := by
  by_cases h0 : x = 0
  · have HC := Lib.hid (show cmp3 (vS s) (vS ⟨#[]⟩) = 0 by rw [vS_nil, hx, h0]; rfl)
    have HD := Lib.hid (decide_eq_true h0)
    clear h0 hx
    go_enter Tryz.func117, Tryz.ntmps117
    go_wp2_with fail
    refine (rCompare_any s ⟨#[]⟩ w hs (by decide)).mono ?_
    rintro _ _ ⟨rfl, rfl⟩
    rw [HC.out]
    go_wp2_with fail
    go_ret
    exact ⟨by rw [HD.out]; rfl, rfl⟩
  · obtain ⟨c, hc⟩ : ∃ c, cmp3 (vS s) (vS ⟨#[]⟩) = c := ⟨_, rfl⟩
    have hcc : (c == 0) = false := by
      have : c ≠ 0 := by rw [← hc, vS_nil, hx]; intro e; exact h0 ((cmp3_zero _ _).1 e)
      simpa using this
    have HC := Lib.hid hc
    have HD := Lib.hid (decide_eq_false h0)
    clear h0 hx hc
    go_enter Tryz.func117, Tryz.ntmps117
    go_wp2_with fail
    refine (rCompare_any s ⟨#[]⟩ w hs (by decide)).mono ?_
    rintro _ _ ⟨rfl, rfl⟩
    rw [HC.out]
    go_wp2_with fail
    go_ret
    exact ⟨by rw [HD.out]; rfl, rfl⟩

theorem qExact {a b : ByteArray} {x y z : Int} (w : World) (ha : a.size ≤ 1000) (hb : b.size ≤ 1000) (hx : vS a = x) (hy : vS b = y) (h0 : y ≠ 0) (hz : Int.fdiv x y = z) :
    Calls Tryz.prog 152 #[.string a, .string b] w (StrPost w z) := by
  have hd := rDiv_any a b w ha hb (by rw [hy]; exact h0)
  rw [hx, hy] at hd
  have HD := Lib.hid hd
  have HZ := Lib.hid hz
  clear hd hz hx hy
  go_enter Tryz.func152, Tryz.ntmps152
  go_wp2_with fail
  refine HD.out.mono ?_
  rintro _ w1 ⟨rfl, hB⟩
  rw [HZ.out]
  go_wp2_with fail
  go_ret
  exact ⟨rfl, hB⟩

/-- returns two strings with these values, as two results -/
def PairPost (w : World) (p : Int × Int) (k : Nat) (e : Ending) (w' : World) : Prop :=
  ∃ a b, e = .returned (.tuple #[.string a, .string b]) ∧ vS a = p.1 ∧ vS b = p.2 ∧ a.size ≤ k ∧ b.size ≤ k ∧ Below w.heap.size w w'

set_option maxRecDepth 100000 in
set_option maxHeartbeats 2000000 in
theorem qRaw (n d : ByteArray) (w : World) (k : Nat) (hG : Ground w) (hn : n.size + 1 ≤ k) (hd : d.size + 1 ≤ k) (hk : k ≤ 4294967295) :
    Calls Tryz.prog 107 #[.agg #[.string n, .string d]] w (PairPost w (raw n d) k) := by
  obtain ⟨W0, hW0⟩ : ∃ W0, W0 = w.alloc (.cells #[.string n, .string d] 36) := ⟨_, rfl⟩
  have hS : StX w W0 36 n d := by rw [hW0]; exact StX.made hG _ _ _
  obtain ⟨c0, c1, _, _⟩ := hS.x.cells
  by_cases h0 : vS d = 0
  · have HR := Lib.hid (show raw n d = (vS n, 1) by unfold raw; rw [h0]; rfl)
    have HD := Lib.hid h0
    clear h0
    go_enter Tryz.func107, Tryz.ntmps107
    go_wp2_with fail
    rw [← hW0]
    clear hW0
    refine (qZero (x := 0) W0 (by omega) HD.out).mono ?_
    rintro _ _ ⟨rfl, rfl⟩
    go_wp2_with fail
    go_region_held3 (fun w' => w'.cell? ⟨w.heap.size, 0, none⟩ = some (.string n) ∧ w'.cell? ⟨w.heap.size, 1, none⟩ = some (.string d))
      (go_keep)
      ((go_at_call 109; (with_reducible refine Calls.mono (qOne _) ?_); (rintro _ _ ⟨rfl, rfl⟩)))
    all_goals go_wp2_with fail
    all_goals go_ret2
    all_goals exact ⟨n, ⟨#[49]⟩, rfl, by rw [HR.out], by rw [HR.out]; exact vS_one, by omega, by show 1 ≤ k; omega, by first | exact hS.below | exact hS.drew.below | exact (hS.drewN _).below⟩
  · by_cases hl : vS d < 0
    · obtain ⟨e, he⟩ : ∃ e, e = cS (-vS n) := ⟨_, rfl⟩
      obtain ⟨g, hg⟩ : ∃ g, g = cS (-vS d) := ⟨_, rfl⟩
      have s1 : e.size ≤ k := by rw [he]; have := cS_size (z := -vS n) (k := n.size) (by rw [Int.natAbs_neg]; exact vS_lt n); omega
      have s2 : g.size ≤ k := by rw [hg]; have := cS_size (z := -vS d) (k := d.size) (by rw [Int.natAbs_neg]; exact vS_lt d); omega
      have HF := Lib.hid (show vS e = -vS n ∧ vS g = -vS d by rw [he, hg, vS_cS, vS_cS]; exact ⟨rfl, rfl⟩)
      have HE := Lib.hid he
      have HH := Lib.hid hg
      have HC := Lib.hid (show cmp3 (vS d) (vS ⟨#[]⟩) = -1 by rw [vS_nil]; exact cmp3_lt hl)
      have HR := Lib.hid (rawP_of_neg (n := vS n) hl)
      have HZ := Lib.hid (decide_eq_false h0)
      clear he hg h0 hl
      go_enter Tryz.func107, Tryz.ntmps107
      go_wp2_with fail
      rw [← hW0]
      clear hW0
      refine (qZero (x := vS d) W0 (by omega) rfl).mono ?_
      rintro _ _ ⟨rfl, rfl⟩
      rw [HZ.out]
      go_wp2_with fail
      refine (rCompare_any d ⟨#[]⟩ W0 (by omega) (by decide)).mono ?_
      rintro _ _ ⟨rfl, rfl⟩
      rw [HC.out]
      go_wp2_with fail
      go_region_held3 (fun w' => w'.cell? ⟨w.heap.size, 0, none⟩ = some (.string n) ∧ w'.cell? ⟨w.heap.size, 1, none⟩ = some (.string d))
        (go_keep)
        ((go_at_call 61;
          (first
            | ((with_reducible refine Calls.mono (rNeg_any n _ (by omega)) ?_); (rintro _ _ ⟨rfl, rfl⟩); (rw [← HE.out]))
            | ((with_reducible refine Calls.mono (rNeg_any d _ (by omega)) ?_); (rintro _ _ ⟨rfl, rfl⟩); (rw [← HH.out])))))
      all_goals go_wp2_with fail
      all_goals go_ret2
      all_goals exact ⟨e, g, rfl, by show _ = (rawP (vS n) (vS d)).1; rw [HR.out]; exact HF.out.1, by show _ = (rawP (vS n) (vS d)).2; rw [HR.out]; exact HF.out.2, s1, s2, by first | exact hS.below | exact hS.drew.below | exact (hS.drewN _).below⟩
    · have HC := Lib.hid (show cmp3 (vS d) (vS ⟨#[]⟩) = 1 by rw [vS_nil]; exact cmp3_gt (by omega))
      have HR := Lib.hid (rawP_of_pos (n := vS n) (show (0 : Int) < vS d by omega))
      have HZ := Lib.hid (decide_eq_false h0)
      clear hl h0
      go_enter Tryz.func107, Tryz.ntmps107
      go_wp2_with fail
      rw [← hW0]
      clear hW0
      refine (qZero (x := vS d) W0 (by omega) rfl).mono ?_
      rintro _ _ ⟨rfl, rfl⟩
      rw [HZ.out]
      go_wp2_with fail
      refine (rCompare_any d ⟨#[]⟩ W0 (by omega) (by decide)).mono ?_
      rintro _ _ ⟨rfl, rfl⟩
      rw [HC.out]
      go_wp2_with fail
      go_region
      all_goals go_wp2_with fail
      all_goals go_ret2
      all_goals exact ⟨n, d, rfl, by show _ = (rawP (vS n) (vS d)).1; rw [HR.out], by show _ = (rawP (vS n) (vS d)).2; rw [HR.out], by omega, by omega, by first | exact hS.below | exact hS.drew.below | exact (hS.drewN _).below⟩

end Go.Proofs.YthhihdihkddakaaGreatDoor

/- The reference implementation of layer 2: reduced, Canonical, Check, New, Of, Parts: the walks. -/
namespace Go.Proofs.YthhihdihkddakaaGreatDoor
open Go.RowKit Fra

theorem red_nil {y : Int} (h : 0 < y) : cS (red 0 y).1 = ⟨#[]⟩ ∧ cD (red 0 y).2 = ⟨#[]⟩ := by rw [red_zero h]; exact ⟨cS_zero, cD_one⟩

set_option maxRecDepth 100000 in
set_option maxHeartbeats 2000000 in
theorem qReduced {n d : ByteArray} {x y : Int} (w : World) (hn : n.size ≤ 900) (hd : d.size ≤ 900) (hx : vS n = x) (hy : vS d = y) (h0 : 0 < y) :
    Calls Tryz.prog 110 #[.string n, .string d] w (FPost w (red x y)) := by
  obtain ⟨W0, hW0⟩ : ∃ W0, W0 = w.alloc (.cells #[.string ⟨#[]⟩, .string ⟨#[]⟩] 36) := ⟨_, rfl⟩
  have hB0 : Below w.heap.size w W0 := by rw [hW0]; exact (Below.refl _ _).alloc (Nat.le_refl _) _
  have hP : PairAt W0 w.heap.size 36 ⟨#[]⟩ ⟨#[]⟩ := by rw [hW0]; exact PairAt.made _ _ _ _
  by_cases hz : x = 0
  · have HX := Lib.hid hx
    have HZ := Lib.hid (decide_eq_true hz)
    have HN := Lib.hid (show cS (red x y).1 = ⟨#[]⟩ ∧ cD (red x y).2 = ⟨#[]⟩ by rw [hz]; exact red_nil h0)
    clear hz hx hy h0
    obtain ⟨c0, c1, c2, c3⟩ := hP.cells
    go_enter Tryz.func110, Tryz.ntmps110
    go_wp2_with fail
    rw [← hW0]
    clear hW0
    refine (qZero (x := x) W0 (by omega) HX.out).mono ?_
    rintro _ _ ⟨rfl, rfl⟩
    rw [HZ.out]
    go_wp2_with fail
    obtain ⟨k0, k1, _, _⟩ := (hP.put ⟨#[]⟩ ⟨#[]⟩).cells
    exact bodyPost_ret (v := .agg #[.string ⟨#[]⟩, .string ⟨#[]⟩]) (by simp [results, Tryz.results110, go_sem, k0, k1]) rfl ⟨by rw [HN.out.1, HN.out.2], below_put hB0 (Nat.le_refl _) _ _⟩
  · have hg := gcd_pos (n := x) h0
    have hgs : (cS (Int.gcd x y : Int)).size ≤ 1000 := by
      have h1 : Int.gcd x y ≤ y.natAbs := Int.gcd_le_natAbs_right x (by omega)
      have h2 := vS_lt d
      rw [hy] at h2
      have := cS_size (z := (Int.gcd x y : Int)) (k := d.size) (by omega)
      omega
    have HX := Lib.hid hx
    have HY := Lib.hid hy
    have HZ := Lib.hid (decide_eq_false hz)
    have HG := Lib.hid hg
    have HS := Lib.hid hgs
    have hcz := CapP.of_red (k := 900) h0 (Cap.of hn hx) (Cap.of hd hy)
    have HQS := Lib.hid (show (cS (red x y).2).size ≤ 901 by have := cS_size hcz.2; omega)
    have HQ1 := Lib.hid (show Int.fdiv x (Int.gcd x y : Int) = (red x y).1 from ediv_fdiv hg)
    have HQ2 := Lib.hid (show Int.fdiv y (Int.gcd x y : Int) = (red x y).2 from ediv_fdiv hg)
    have hrd : ∀ c, cmp3 (red x y).2 1 = c → (c == 0) = decide ((red x y).2 = 1) := by
      intro c hc
      subst hc
      by_cases h1 : (red x y).2 = 1
      · rw [h1]; rfl
      · rw [decide_eq_false h1]
        have : cmp3 (red x y).2 1 ≠ 0 := fun e => h1 ((cmp3_zero _ _).1 e)
        simpa using this
    have HRD := Lib.hid hrd
    clear hz hx hy hg hgs hcz hrd h0
    go_enter Tryz.func110, Tryz.ntmps110
    go_wp2_with fail
    rw [← hW0]
    clear hW0
    refine (qZero (x := x) W0 (by omega) HX.out).mono ?_
    rintro _ _ ⟨rfl, rfl⟩
    rw [HZ.out]
    go_wp2_with fail
    refine (show Calls _ _ _ W0 (StrPost W0 (Int.gcd x y : Int)) from by have := rGcd_any n d W0 hn hd; rwa [HX.out, HY.out] at this).mono ?_
    rintro _ w1 ⟨rfl, hB⟩
    have hP1 := hP.below hB
    have hB1 := hB0.trans (hB.mono hB0.size)
    clear hB hB0 hP
    go_wp2_with fail
    refine (qExact w1 (by omega) HS.out HX.out (vS_cS _) (by have := HG.out; omega) HQ1.out).mono ?_
    rintro _ w2 ⟨rfl, hB⟩
    have hP2 := hP1.below hB
    have hB2 := hB1.trans (hB.mono hB1.size)
    clear hB hB1 hP1
    go_wp2_with fail
    refine (qExact w2 (by omega) HS.out HY.out (vS_cS _) (by have := HG.out; omega) HQ2.out).mono ?_
    rintro _ w3 ⟨rfl, hB⟩
    have hP3 := hP2.below hB
    have hB3 := hB2.trans (hB.mono hB2.size)
    clear hB hB2 hP2
    go_upto_region 5 with fail
    obtain ⟨B, hBe⟩ : ∃ B, B = w3.heap.size := ⟨_, rfl⟩
    obtain ⟨u, hu⟩ : ∃ u, u = cS (red x y).1 := ⟨_, rfl⟩
    obtain ⟨v, hv⟩ : ∃ v, v = cS (red x y).2 := ⟨_, rfl⟩
    rw [← hu, ← hv]
    obtain ⟨W4, hW4⟩ : ∃ W4, W4 = w3.alloc (.cells #[.string u, .string v] 36) := ⟨_, rfl⟩
    have hX : PairAt W4 B 36 u v := by rw [hW4, hBe]; exact PairAt.made _ _ _ _
    have hP4 : PairAt W4 w.heap.size 36 ⟨#[]⟩ ⟨#[]⟩ := by rw [hW4]; exact hP3.alloc _
    have hB4 : Below w.heap.size w W4 := by rw [hW4]; exact hB3.alloc hB3.size _
    have hne : w.heap.size < B := by rw [hBe]; exact hP3.lt
    rw [← hBe, ← hW4]
    clear hW4 hBe hP3 hB3
    have hne1 : B ≠ w.heap.size := by omega
    obtain ⟨c0, c1, c2, c3⟩ := hX.cells
    obtain ⟨d0, d1, d2, d3⟩ := hP4.cells
    rw [← hv] at HQS
    have HV := Lib.hid (show vS v = (red x y).2 by rw [hv, vS_cS])
    have HU := Lib.hid hu
    have HVV := Lib.hid hv
    clear hu hv
    obtain ⟨c, hc⟩ : ∃ c, cmp3 (red x y).2 1 = c := ⟨_, rfl⟩
    have HC := Lib.hid (show cmp3 (vS v) (vS ⟨#[49]⟩) = c by rw [HV.out, vS_one]; exact hc)
    have hcc := HRD.out c hc
    have hsv : v.size ≤ 4294967296 := Nat.le_trans HQS.out (by decide)
    clear hc
    by_cases h1 : (red x y).2 = 1
    · rw [decide_eq_true h1] at hcc
      have HD := Lib.hid (show cD (red x y).2 = ⟨#[]⟩ by rw [h1, cD_one])
      clear h1
      go_region_held3 (fun w' => w'.cell? ⟨B, 0, none⟩ = some (.string u) ∧ w'.cell? ⟨B, 1, none⟩ = some (.string v))
        (go_keep)
        (first
          | (go_at_call 109; (with_reducible refine Calls.mono (qOne _) ?_); (rintro _ _ ⟨rfl, rfl⟩))
          | (go_at_call 73; (with_reducible refine Calls.mono (rCompare_any v ⟨#[49]⟩ _ hsv (by decide)) ?_); (rintro _ _ ⟨rfl, rfl⟩); (rw [HC.out])))
      all_goals obtain ⟨W5, hW5⟩ : ∃ W5, W5 = W4.drew := ⟨_, rfl⟩
      all_goals have hX5 : PairAt W5 B 36 u v := by rw [hW5]; exact hX
      all_goals have hP5 : PairAt W5 w.heap.size 36 ⟨#[]⟩ ⟨#[]⟩ := by rw [hW5]; exact hP4
      all_goals have hB5 : Below w.heap.size w W5 := by rw [hW5]; exact below_drewN hB4 1
      all_goals rw [← hW5]
      all_goals clear hW5
      all_goals obtain ⟨e0, e1, e2, e3⟩ := hX5.cells
      all_goals obtain ⟨f0, f1, f2, f3⟩ := hP5.cells
      all_goals obtain ⟨g0, g1, g2, g3⟩ := (hX5.set1 ⟨#[]⟩).cells
      all_goals have hP6 := hP5.setOther (a := ⟨B, 1, none⟩) (show w.heap.size ≠ B by omega) (.string ⟨#[]⟩)
      all_goals obtain ⟨i0, i1, i2, i3⟩ := hP6.cells
      all_goals go_wp2_with fail
      all_goals obtain ⟨k0, k1, _, _⟩ := (hP6.put u ⟨#[]⟩).cells
      all_goals exact bodyPost_ret (v := .agg #[.string u, .string ⟨#[]⟩]) (by simp [results, Tryz.results110, go_sem, k0, k1]) rfl ⟨by rw [HD.out, HU.out], below_put (hB5.setCell (p := ⟨B, 1, none⟩) (show w.heap.size ≤ B by omega) _) (Nat.le_refl _) _ _⟩
    · rw [decide_eq_false h1] at hcc
      have HD := Lib.hid (show cD (red x y).2 = cS (red x y).2 by unfold cD; rw [if_neg h1])
      clear h1
      go_region_held3 (fun w' => w'.cell? ⟨B, 0, none⟩ = some (.string u) ∧ w'.cell? ⟨B, 1, none⟩ = some (.string v))
        (go_keep)
        (first
          | (go_at_call 109; (with_reducible refine Calls.mono (qOne _) ?_); (rintro _ _ ⟨rfl, rfl⟩))
          | (go_at_call 73; (with_reducible refine Calls.mono (rCompare_any v ⟨#[49]⟩ _ hsv (by decide)) ?_); (rintro _ _ ⟨rfl, rfl⟩); (rw [HC.out])))
      all_goals obtain ⟨W5, hW5⟩ : ∃ W5, W5 = W4.drew := ⟨_, rfl⟩
      all_goals have hX5 : PairAt W5 B 36 u v := by rw [hW5]; exact hX
      all_goals have hP5 : PairAt W5 w.heap.size 36 ⟨#[]⟩ ⟨#[]⟩ := by rw [hW5]; exact hP4
      all_goals have hB5 : Below w.heap.size w W5 := by rw [hW5]; exact below_drewN hB4 1
      all_goals rw [← hW5]
      all_goals clear hW5
      all_goals obtain ⟨e0, e1, e2, e3⟩ := hX5.cells
      all_goals obtain ⟨f0, f1, f2, f3⟩ := hP5.cells
      all_goals go_wp2_with fail
      all_goals obtain ⟨k0, k1, _, _⟩ := (hP5.put u v).cells
      all_goals exact bodyPost_ret (v := .agg #[.string u, .string v]) (by simp [results, Tryz.results110, go_sem, k0, k1]) rfl ⟨by rw [HD.out, HU.out, ← HVV.out], below_put hB5 (Nat.le_refl _) _ _⟩

end Go.Proofs.YthhihdihkddakaaGreatDoor

/- The reference implementation of layer 2: Raw exactly, Canonical, Check, New, Of, Parts: the walks. -/
namespace Go.Proofs.YthhihdihkddakaaGreatDoor
open Go.RowKit Fra

set_option maxRecDepth 100000 in
set_option maxHeartbeats 2000000 in
theorem qRaw_zero (n d : ByteArray) (w : World) (hG : Ground w) (hd : d.size ≤ 4294967294) (h0 : vS d = 0) :
    Calls Tryz.prog 107 #[.agg #[.string n, .string d]] w fun r w' => r = .returned (.tuple #[.string n, .string ⟨#[49]⟩]) ∧ Below w.heap.size w w' := by
  obtain ⟨W0, hW0⟩ : ∃ W0, W0 = w.alloc (.cells #[.string n, .string d] 36) := ⟨_, rfl⟩
  have hS : StX w W0 36 n d := by rw [hW0]; exact StX.made hG _ _ _
  obtain ⟨c0, c1, _, _⟩ := hS.x.cells
  have HD := Lib.hid h0
  clear h0
  go_enter Tryz.func107, Tryz.ntmps107
  go_wp2_with fail
  rw [← hW0]
  clear hW0
  refine (qZero (x := 0) W0 (by omega) HD.out).mono ?_
  rintro _ _ ⟨rfl, rfl⟩
  go_wp2_with fail
  go_region_held3 (fun w' => w'.cell? ⟨w.heap.size, 0, none⟩ = some (.string n) ∧ w'.cell? ⟨w.heap.size, 1, none⟩ = some (.string d))
    (go_keep)
    ((go_at_call 109; (with_reducible refine Calls.mono (qOne _) ?_); (rintro _ _ ⟨rfl, rfl⟩)))
  all_goals go_wp2_with fail
  all_goals go_ret2
  all_goals exact ⟨rfl, by first | exact hS.below | exact hS.drew.below | exact (hS.drewN _).below⟩

set_option maxRecDepth 100000 in
set_option maxHeartbeats 2000000 in
theorem qRaw_pos (n d : ByteArray) (w : World) (hG : Ground w) (hd : d.size ≤ 4294967294) (h0 : 0 < vS d) :
    Calls Tryz.prog 107 #[.agg #[.string n, .string d]] w fun r w' => r = .returned (.tuple #[.string n, .string d]) ∧ Below w.heap.size w w' := by
  obtain ⟨W0, hW0⟩ : ∃ W0, W0 = w.alloc (.cells #[.string n, .string d] 36) := ⟨_, rfl⟩
  have hS : StX w W0 36 n d := by rw [hW0]; exact StX.made hG _ _ _
  obtain ⟨c0, c1, _, _⟩ := hS.x.cells
  have HC := Lib.hid (show cmp3 (vS d) (vS ⟨#[]⟩) = 1 by rw [vS_nil]; exact cmp3_gt (by omega))
  have HZ := Lib.hid (decide_eq_false (show ¬ vS d = 0 by omega))
  clear h0
  go_enter Tryz.func107, Tryz.ntmps107
  go_wp2_with fail
  rw [← hW0]
  clear hW0
  refine (qZero (x := vS d) W0 (by omega) rfl).mono ?_
  rintro _ _ ⟨rfl, rfl⟩
  rw [HZ.out]
  go_wp2_with fail
  refine (rCompare_any d ⟨#[]⟩ W0 (by omega) (by decide)).mono ?_
  rintro _ _ ⟨rfl, rfl⟩
  rw [HC.out]
  go_wp2_with fail
  go_region
  all_goals go_wp2_with fail
  all_goals go_ret2
  all_goals exact ⟨rfl, by first | exact hS.below | exact hS.drew.below | exact (hS.drewN _).below⟩

theorem qRaw_can {p : Int × Int} (w : World) (hG : Ground w) (hp : 0 < p.2) (hs : (cD p.2).size ≤ 4294967294) :
    Calls Tryz.prog 107 #[.agg #[.string (cS p.1), .string (cD p.2)]] w fun r w' => r = .returned (.tuple #[.string (cS p.1), .string (cS p.2)]) ∧ Below w.heap.size w w' := by
  by_cases h1 : p.2 = 1
  · have := qRaw_zero (cS p.1) (cD p.2) w hG hs (by rw [h1, cD_one]; exact vS_nil)
    rw [show cS p.2 = ⟨#[49]⟩ by rw [h1, cS_one]]
    exact this
  · have e : cD p.2 = cS p.2 := by unfold cD; rw [if_neg h1]
    have := qRaw_pos (cS p.1) (cD p.2) w hG hs (by rw [e, vS_cS]; exact hp)
    rw [e] at this ⊢
    exact this

set_option maxRecDepth 100000 in
set_option maxHeartbeats 2000000 in
theorem qCanonical_any (n d : ByteArray) (w : World) (hG : Ground w) (hn : n.size ≤ 850) (hd : d.size ≤ 850) :
    Calls Tryz.prog 118 #[.agg #[.string n, .string d]] w (FPost w (low (raw n d))) := by
  have HP := Lib.hid (raw_pos n d)
  obtain ⟨W0, hW0⟩ : ∃ W0, W0 = (w.alloc (.cells #[.string n, .string d] 36)).alloc (.cells #[.string ⟨#[]⟩, .string ⟨#[]⟩] 36) := ⟨_, rfl⟩
  have hS : St1 w W0 36 36 n d := by rw [hW0]; exact St1.made hG _ _ _ _
  obtain ⟨c0, c1, _, _⟩ := hS.x.cells
  go_enter Tryz.func118, Tryz.ntmps118
  go_wp2_with fail
  rw [← hW0]
  clear hW0
  refine (qRaw n d W0 851 hS.g (by omega) (by omega) (by decide)).mono ?_
  rintro _ w1 ⟨a, b, rfl, e1, e2, e3, e4, hB⟩
  replace hS := hS.next hB
  have HE1 := Lib.hid e1
  have HE2 := Lib.hid e2
  clear hB e1 e2 c0 c1
  go_wp2_with fail
  refine (show Calls _ _ _ w1 (FPost w1 (low (raw n d))) from qReduced w1 (by omega) (by omega) HE1.out HE2.out HP.out).mono ?_
  rintro _ w2 ⟨rfl, hB⟩
  replace hS := hS.next hB
  clear hB
  obtain ⟨r0, r1, r2, r3⟩ := hS.r.cells
  go_wp2_with fail
  obtain ⟨k0, k1, _, _⟩ := (hS.r.put (cS (low (raw n d)).1) (cD (low (raw n d)).2)).cells
  exact bodyPost_ret (v := .agg #[.string (cS (low (raw n d)).1), .string (cD (low (raw n d)).2)]) (by simp [results, Tryz.results118, go_sem, k0, k1]) rfl ⟨rfl, below_put hS.below (by omega) _ _⟩

set_option maxRecDepth 100000 in
set_option maxHeartbeats 2000000 in
theorem qNew_zero (n d : ByteArray) (w : World) (hd : d.size ≤ 850) (h0 : vS d = 0) :
    Calls Tryz.prog 63 #[.string n, .string d] w fun e w' => e = .returned (.tuple #[.agg #[.string ⟨#[]⟩, .string ⟨#[]⟩], .int .i64 10]) ∧ Below w.heap.size w w' := by
  have HD := Lib.hid h0
  clear h0
  obtain ⟨W0, hW0⟩ : ∃ W0, W0 = w.alloc (.cells #[.string ⟨#[]⟩, .string ⟨#[]⟩] 36) := ⟨_, rfl⟩
  have hB0 : Below w.heap.size w W0 := by rw [hW0]; exact (Below.refl _ _).alloc (Nat.le_refl _) _
  have hP : PairAt W0 w.heap.size 36 ⟨#[]⟩ ⟨#[]⟩ := by rw [hW0]; exact PairAt.made _ _ _ _
  obtain ⟨c4, c5, c6, c7⟩ := hP.cells
  go_enter Tryz.func63, Tryz.ntmps63
  go_wp2_with fail
  rw [← hW0]
  clear hW0
  refine (qZero (x := 0) W0 (by omega) HD.out).mono ?_
  rintro _ _ ⟨rfl, rfl⟩
  go_wp2_with fail
  obtain ⟨k0, k1, _, _⟩ := (hP.put ⟨#[]⟩ ⟨#[]⟩).cells
  exact bodyPost_ret (v := .tuple #[.agg #[.string ⟨#[]⟩, .string ⟨#[]⟩], .int .i64 10]) (by simp [results, Tryz.results63, go_sem, k0, k1]) rfl ⟨rfl, below_put hB0 (Nat.le_refl _) _ _⟩

set_option maxRecDepth 100000 in
set_option maxHeartbeats 2000000 in
theorem qNew_any {n d : ByteArray} {x y : Int} (w : World) (hG : Ground w) (hn : n.size ≤ 850) (hd : d.size ≤ 850) (hx : vS n = x) (hy : vS d = y) (h0 : y ≠ 0) :
    Calls Tryz.prog 63 #[.string n, .string d] w fun e w' => e = .returned (.tuple #[.agg #[.string (cS (redS x y).1), .string (cD (redS x y).2)], .int .i64 0]) ∧ Below w.heap.size w w' := by
  have HE := Lib.hid (show low (raw n d) = redS x y by unfold raw; rw [hx, hy]; exact rawP_redS h0)
  have HY := Lib.hid hy
  have HD := Lib.hid (decide_eq_false h0)
  clear hx hy h0
  obtain ⟨W0, hW0⟩ : ∃ W0, W0 = w.alloc (.cells #[.string ⟨#[]⟩, .string ⟨#[]⟩] 36) := ⟨_, rfl⟩
  have hB0 : Below w.heap.size w W0 := by rw [hW0]; exact (Below.refl _ _).alloc (Nat.le_refl _) _
  have hP : PairAt W0 w.heap.size 36 ⟨#[]⟩ ⟨#[]⟩ := by rw [hW0]; exact PairAt.made _ _ _ _
  go_enter Tryz.func63, Tryz.ntmps63
  go_wp2_with fail
  rw [← hW0]
  clear hW0
  refine (qZero (x := y) W0 (by omega) HY.out).mono ?_
  rintro _ _ ⟨rfl, rfl⟩
  rw [HD.out]
  go_wp2_with fail
  refine (show Calls _ _ _ W0 (FPost W0 (redS x y)) from by have := qCanonical_any n d W0 (hG.below hB0) hn hd; rwa [HE.out] at this).mono ?_
  rintro _ w1 ⟨rfl, hB⟩
  have hP1 := hP.below hB
  have hB1 := hB0.trans (hB.mono hB0.size)
  clear hB hB0 hP
  obtain ⟨c4, c5, c6, c7⟩ := hP1.cells
  go_wp2_with fail
  obtain ⟨k0, k1, _, _⟩ := (hP1.put (cS (redS x y).1) (cD (redS x y).2)).cells
  exact bodyPost_ret (v := .tuple #[.agg #[.string (cS (redS x y).1), .string (cD (redS x y).2)], .int .i64 0]) (by simp [results, Tryz.results63, go_sem, k0, k1]) rfl ⟨rfl, below_put hB1 (Nat.le_refl _) _ _⟩

set_option maxRecDepth 100000 in
set_option maxHeartbeats 2000000 in
theorem qOf_any {a : ByteArray} {x : Int} (w : World) (ha : a.size ≤ 850) (hx : vS a = x) :
    Calls Tryz.prog 54 #[.string a] w fun e w' => e = .returned (.agg #[.string (cS x), .string ⟨#[]⟩]) ∧ Below w.heap.size w w' := by
  have HX := Lib.hid hx
  clear hx
  obtain ⟨W0, hW0⟩ : ∃ W0, W0 = w.alloc (.cells #[.string ⟨#[]⟩, .string ⟨#[]⟩] 36) := ⟨_, rfl⟩
  have hB0 : Below w.heap.size w W0 := by rw [hW0]; exact (Below.refl _ _).alloc (Nat.le_refl _) _
  have hP : PairAt W0 w.heap.size 36 ⟨#[]⟩ ⟨#[]⟩ := by rw [hW0]; exact PairAt.made _ _ _ _
  go_enter Tryz.func54, Tryz.ntmps54
  go_wp2_with fail
  rw [← hW0]
  clear hW0
  refine (qOne W0).mono ?_
  rintro _ _ ⟨rfl, rfl⟩
  go_wp2_with fail
  refine (show Calls _ _ _ W0 (fun e w' => e = .returned (.agg #[.string (cS x), .string ⟨#[]⟩]) ∧ Below W0.heap.size W0 w') from by have := qReduced (x := x) (y := 1) W0 (show a.size ≤ 900 by omega) (show (ByteArray.mk #[49]).size ≤ 900 by decide) HX.out vS_one (by decide); rw [red_one] at this; exact this).mono ?_
  rintro _ w1 ⟨rfl, hB⟩
  have hP1 := hP.below hB
  have hB1 := hB0.trans (hB.mono hB0.size)
  clear hB hB0 hP
  obtain ⟨c4, c5, c6, c7⟩ := hP1.cells
  go_wp2_with fail
  obtain ⟨k0, k1, _, _⟩ := (hP1.put (cS x) ⟨#[]⟩).cells
  exact bodyPost_ret (v := .agg #[.string (cS x), .string ⟨#[]⟩]) (by simp [results, Tryz.results54, go_sem, k0, k1]) rfl ⟨rfl, below_put hB1 (Nat.le_refl _) _ _⟩

set_option maxRecDepth 100000 in
set_option maxHeartbeats 2000000 in
theorem qParts_any (n d : ByteArray) (w : World) (hG : Ground w) (hn : n.size ≤ 850) (hd : d.size ≤ 850) :
    Calls Tryz.prog 80 #[.agg #[.string n, .string d]] w fun r w' => r = .returned (.tuple #[.string (cS (low (raw n d)).1), .string (cS (low (raw n d)).2)]) ∧ Below w.heap.size w w' := by
  have HLP := Lib.hid (low_pos (raw_pos n d))
  have HSZ := Lib.hid (show (cD (low (raw n d)).2).size ≤ 4294967294 by have := cD_size (CapP.low (CapP.of_raw (k := 850) (by decide) hn hd) (raw_pos n d)).2; omega)
  obtain ⟨W0, hW0⟩ : ∃ W0, W0 = w.alloc (.cells #[.string n, .string d] 36) := ⟨_, rfl⟩
  have hS : StX w W0 36 n d := by rw [hW0]; exact StX.made hG _ _ _
  obtain ⟨c0, c1, _, _⟩ := hS.x.cells
  go_enter Tryz.func80, Tryz.ntmps80
  go_wp2_with fail
  rw [← hW0]
  clear hW0
  refine (qCanonical_any n d W0 hS.g hn hd).mono ?_
  rintro _ w1 ⟨rfl, hB⟩
  replace hS := hS.next hB
  clear hB c0 c1
  go_wp2_with fail
  refine (qRaw_can w1 hS.g HLP.out HSZ.out).mono ?_
  rintro _ w2 ⟨rfl, hB⟩
  replace hS := hS.next hB
  clear hB
  go_wp2_with fail
  go_ret2
  exact ⟨rfl, hS.below⟩

set_option maxRecDepth 100000 in
set_option maxHeartbeats 2000000 in
theorem qCheck_ok (n d : ByteArray) (w : World) (hG : Ground w) (hn : n.size ≤ 850) (hd : d.size ≤ 850) (hq : cS (low (raw n d)).1 = n ∧ cD (low (raw n d)).2 = d) :
    Calls Tryz.prog 79 #[.agg #[.string n, .string d]] w fun r w' => r = .returned (.int .i64 0) ∧ Below w.heap.size w w' := by
  have hg := frac_guard .neq (.tmp 3) (.tmp 5) n d (cS (low (raw n d)).1) (cD (low (raw n d)).2)
  have hqq := frac_alike (And.intro hq.1.symm hq.2.symm)
  clear hq
  obtain ⟨W0, hW0⟩ : ∃ W0, W0 = w.alloc (.cells #[.string n, .string d] 36) := ⟨_, rfl⟩
  have hS : StX w W0 36 n d := by rw [hW0]; exact StX.made hG _ _ _
  obtain ⟨c0, c1, _, _⟩ := hS.x.cells
  go_enter Tryz.func79, Tryz.ntmps79
  go_wp2_with fail
  rw [← hW0]
  clear hW0
  have HS := Lib.hid hS
  clear hS
  go_region_held3 (fun w' => w'.cell? ⟨w.heap.size, 0, none⟩ = some (.string n) ∧ w'.cell? ⟨w.heap.size, 1, none⟩ = some (.string d))
    (go_keep)
    ((go_at_call 118;
         (with_reducible refine Calls.mono (qCanonical_any n d _ (by first | exact HS.out.g | exact HS.out.drew.g | exact (HS.out.drewN _).g) hn hd) ?_);
         (rintro e W1 ⟨rfl, hB1⟩);
         (have HS2 : StX w W1 _ n d := (by first | exact HS.out.next hB1 | exact HS.out.next1 hB1 | exact HS.out.nextD hB1));
         (replace HS := Lib.hid HS2);
         (clear hB1 HS2);
         (obtain ⟨c0, c1, _, _⟩ := HS.out.x.cells)))
  all_goals go_wp2_with fail
  all_goals go_ret
  all_goals exact ⟨rfl, HS.out.below⟩

set_option maxRecDepth 100000 in
set_option maxHeartbeats 2000000 in
theorem qCheck_bad (n d : ByteArray) (w : World) (hG : Ground w) (hn : n.size ≤ 850) (hd : d.size ≤ 850) (hq : ¬ (cS (low (raw n d)).1 = n ∧ cD (low (raw n d)).2 = d)) :
    Calls Tryz.prog 79 #[.agg #[.string n, .string d]] w fun r w' => r = .returned (.int .i64 1) ∧ Below w.heap.size w w' := by
  have hg := frac_guard .neq (.tmp 3) (.tmp 5) n d (cS (low (raw n d)).1) (cD (low (raw n d)).2)
  have hqq := frac_differ (fun h => hq ⟨h.1.symm, h.2.symm⟩)
  clear hq
  obtain ⟨W0, hW0⟩ : ∃ W0, W0 = w.alloc (.cells #[.string n, .string d] 36) := ⟨_, rfl⟩
  have hS : StX w W0 36 n d := by rw [hW0]; exact StX.made hG _ _ _
  obtain ⟨c0, c1, _, _⟩ := hS.x.cells
  go_enter Tryz.func79, Tryz.ntmps79
  go_wp2_with fail
  rw [← hW0]
  clear hW0
  have HS := Lib.hid hS
  clear hS
  go_region_held3 (fun w' => w'.cell? ⟨w.heap.size, 0, none⟩ = some (.string n) ∧ w'.cell? ⟨w.heap.size, 1, none⟩ = some (.string d))
    (go_keep)
    ((go_at_call 118;
         (with_reducible refine Calls.mono (qCanonical_any n d _ (by first | exact HS.out.g | exact HS.out.drew.g | exact (HS.out.drewN _).g) hn hd) ?_);
         (rintro e W1 ⟨rfl, hB1⟩);
         (have HS2 : StX w W1 _ n d := (by first | exact HS.out.next hB1 | exact HS.out.next1 hB1 | exact HS.out.nextD hB1));
         (replace HS := Lib.hid HS2);
         (clear hB1 HS2);
         (obtain ⟨c0, c1, _, _⟩ := HS.out.x.cells)))
  all_goals go_wp2_with fail
  all_goals go_ret
  all_goals exact ⟨rfl, HS.out.below⟩

end Go.Proofs.YthhihdihkddakaaGreatDoor
