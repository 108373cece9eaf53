/- The program's layer 2: Quo, Compare, Floor, Parts, Check: the walks. -/
import Derived.Test.YthhihdihkddakaaGreatDoorMB
import Derived.Laws.StructEq
import Derived.Deep.Cut
import Derived.Lib.CutLaws
namespace Go.Proofs.YthhihdihkddakaaGreatDoor
open Go.RowKit Fra

/-! ### Fractions compared with == -/
theorem frac_guard (op : BinOp) (x y : Operand) (a b c d : ByteArray) (W : World) : (eqGuard op 36 x y (.agg #[.string a, .string b]) (.agg #[.string c, .string d])).run Tryz.prog W = .ok () W :=
  run_eqGuard_agg W op _ x y _ _ (by kernel_rfl)
theorem frac_equal (a b c d : ByteArray) (W : World) : (Op.equalIn 10000 36 (.agg #[.string a, .string b]) (.agg #[.string c, .string d])).run Tryz.prog W = .ok (a.toList == c.toList && b.toList == d.toList) W := by
  rw [run_equalIn_agg W 9999 36 _ _ (by kernel_rfl) (by kernel_rfl)]
  have hf : (Tryz.prog.fieldsOf 36).toList = [⟨"Num", 22, 0, false, "", "", 0⟩, ⟨"Den", 22, 1, false, "", "", 16⟩] := by kernel_rfl
  rw [hf]
  simp [Op.eqFields, go_sem]
  by_cases h1 : a.toList = c.toList
  · by_cases h2 : b.toList = d.toList
    · simp [h1, h2]
    · rw [if_pos h1, if_neg h2]; simp [h2]
  · rw [if_neg h1]; simp [h1]
theorem frac_eql (a b c d : ByteArray) (W : World) : (binOp .eql 36 (.agg #[.string a, .string b]) (.agg #[.string c, .string d])).run Tryz.prog W = .ok (.bool (a.toList == c.toList && b.toList == d.toList)) W := by
  rw [run_eql_struct, frac_equal]; rfl
theorem frac_neq (a b c d : ByteArray) (W : World) : (binOp .neq 36 (.agg #[.string a, .string b]) (.agg #[.string c, .string d])).run Tryz.prog W = .ok (.bool (!(a.toList == c.toList && b.toList == d.toList))) W := by
  rw [run_neq_struct, frac_equal]; rfl
theorem frac_same (a b : ByteArray) (W : World) : (binOp .eql 36 (.agg #[.string a, .string b]) (.agg #[.string a, .string b])).run Tryz.prog W = .ok (.bool true) W := by
  rw [frac_eql]; simp
theorem frac_other {a b c d : ByteArray} (h : ¬ (a = c ∧ b = d)) : (a.toList == c.toList && b.toList == d.toList) = false := by
  rw [beq_toList, beq_toList, Bool.and_eq_false_iff]
  by_cases h1 : a = c
  · exact .inr (decide_eq_false (fun h2 => h ⟨h1, h2⟩))
  · exact .inl (decide_eq_false h1)
theorem frac_differ {a b c d : ByteArray} (h : ¬ (a = c ∧ b = d)) (W : World) : (binOp .neq 36 (.agg #[.string a, .string b]) (.agg #[.string c, .string d])).run Tryz.prog W = .ok (.bool true) W := by
  rw [frac_neq, frac_other h]; rfl
theorem frac_alike {a b c d : ByteArray} (h : a = c ∧ b = d) (W : World) : (binOp .neq 36 (.agg #[.string a, .string b]) (.agg #[.string c, .string d])).run Tryz.prog W = .ok (.bool false) W := by
  rw [frac_neq, h.1, h.2]; simp
theorem frac_eql_ne {a b c d : ByteArray} (h : ¬ (a = c ∧ b = d)) (W : World) : (binOp .eql 36 (.agg #[.string a, .string b]) (.agg #[.string c, .string d])).run Tryz.prog W = .ok (.bool false) W := by
  rw [frac_eql, frac_other h]

/-- a box behind some calls -/
structure StX (w W : World) (s : TypeId) (a b : ByteArray) : Prop where
  g : Ground W
  x : PairAt W w.heap.size s a b
  below : Below w.heap.size w W
theorem StX.next {w W W1 : World} {s : TypeId} {a b : ByteArray} (h : StX w W s a b) (hb : Below W.heap.size W W1) : StX w W1 s a b := ⟨h.g.below hb, h.x.below hb, h.below.trans (hb.mono h.below.size)⟩
theorem StX.drewN {w W : World} {s : TypeId} {a b : ByteArray} (h : StX w W s a b) (q : Nat) : StX w (W.drewN q) s a b := ⟨(h.g.drewN q), h.x, below_drewN h.below q⟩
theorem StX.drew {w W : World} {s : TypeId} {a b : ByteArray} (h : StX w W s a b) : StX w W.drew s a b := h.drewN 1
theorem StX.next1 {w W W1 : World} {s : TypeId} {a b : ByteArray} (h : StX w W s a b) (hb : Below W.drew.heap.size W.drew W1) : StX w W1 s a b := h.drew.next hb
theorem StX.nextD {w W W1 : World} {q : Nat} {s : TypeId} {a b : ByteArray} (h : StX w W s a b) (hb : Below (W.drewN q).heap.size (W.drewN q) W1) : StX w W1 s a b := (h.drewN q).next hb
theorem StX.made {w : World} (hG : Ground w) (s : TypeId) (a b : ByteArray) : StX w (w.alloc (.cells #[.string a, .string b] s)) s a b :=
  have hB : Below w.heap.size w (w.alloc (.cells #[.string a, .string b] s)) := (Below.refl _ _).alloc (Nat.le_refl _) _
  ⟨hG.below hB, PairAt.made w s a b, hB⟩

set_option maxRecDepth 100000 in
set_option maxHeartbeats 2000000 in
theorem fCompare_any (n d m e : ByteArray) (w : World) (hG : Ground w) (ha : n.size ≤ 100000) (hb : d.size ≤ 100000) (hc : m.size ≤ 100000) (hd : e.size ≤ 100000) :
    Calls Tryz.prog 45 #[.agg #[.string n, .string d], .agg #[.string m, .string e]] w fun r w' => r = .returned (.int .i64 (cmpS (raw n d) (raw m e))) ∧ Below w.heap.size w w' := by
  have cx := CapP.of_raw (k := 100000) (by decide) ha hb
  have cy := CapP.of_raw (k := 100000) (by decide) hc hd
  have HU := Lib.hid (show (cS ((raw n d).1 * (raw m e).2 + -(raw m e).1 * (raw n d).2)).size ≤ 4294967294 from size_of (Cap.add (Cap.mul cx.1 cy.2) (Cap.mul cy.1.neg cx.2)) (by decide))
  clear cx cy
  obtain ⟨W0, hW0⟩ : ∃ W0, W0 = (w.alloc (.cells #[.string n, .string d] 36)).alloc (.cells #[.string m, .string e] 36) := ⟨_, rfl⟩
  have hB0 : Below w.heap.size w W0 := by rw [hW0]; exact below_two _ _ _
  go_enter Tryz.func45, Tryz.ntmps45
  go_wp2_with fail
  rw [← hW0]
  clear hW0
  refine (fApplySub_any n d m e W0 (hG.below hB0) ha hb hc hd).mono ?_
  rintro _ w1 ⟨rfl, hB1⟩
  have hB := hB0.trans (hB1.mono hB0.size)
  clear hB1 hB0
  have hfd : ∀ (a b : ByteArray) (W : World), (Instr.field 97 (.agg #[.string a, .string b]) 0).run Tryz.prog W = .ok (.string a) W := fun _ _ _ => by kernel_rfl
  go_wp2_with fail
  refine (compare_v (y := 0) (z := cmpS (raw n d) (raw m e)) w1 (Nat.le_trans HU.out (by decide)) (by decide) (vS_cS _) vS_nil rfl).mono ?_
  rintro _ w2 ⟨rfl, hB2⟩
  have hB' := hB.trans (hB2.mono hB.size)
  clear hB2 hB
  go_wp2_with fail
  go_ret
  exact ⟨rfl, hB'⟩

set_option maxRecDepth 100000 in
set_option maxHeartbeats 2000000 in
theorem fFloor_any (n d : ByteArray) (w : World) (hG : Ground w) (ha : n.size ≤ 100000) (hb : d.size ≤ 100000) :
    Calls Tryz.prog 46 #[.agg #[.string n, .string d]] w (StrPost w (Int.fdiv (raw n d).1 (raw n d).2)) := by
  have HP := Lib.hid (raw_pos n d)
  obtain ⟨W0, hW0⟩ : ∃ W0, W0 = w.alloc (.cells #[.string n, .string d] 36) := ⟨_, rfl⟩
  have hB0 : Below w.heap.size w W0 := by rw [hW0]; exact (Below.refl _ _).alloc (Nat.le_refl _) _
  go_enter Tryz.func46, Tryz.ntmps46
  go_wp2_with fail
  rw [← hW0]
  clear hW0
  refine (fValue_any n d W0 100001 (by omega) (by omega) (by decide)).mono ?_
  rintro _ w1 ⟨p, q, rfl, e1, e2, e3, e4, hB1⟩
  have hB := hB0.trans (hB1.mono hB0.size)
  have HE1 := Lib.hid e1
  have HE2 := Lib.hid e2
  clear hB1 hB0 e1 e2
  go_wp2_with fail
  obtain ⟨W2, hW2⟩ : ∃ W2, W2 = w1.alloc (.cells #[.string p, .string q] 97) := ⟨_, rfl⟩
  have hB2 : Below w.heap.size w W2 := by rw [hW2]; exact hB.alloc hB.size _
  rw [← hW2]
  clear hW2 hB
  refine (div_v (q := Int.fdiv (raw n d).1 (raw n d).2) W2 (hG.below hB2) (by omega) (by omega) HE1.out HE2.out (by have := HP.out; omega) rfl rfl).mono ?_
  rintro _ w3 ⟨rfl, hB3⟩
  have hB' := hB2.trans (hB3.mono hB2.size)
  clear hB2 hB3
  go_wp2_with fail
  go_ret
  exact ⟨rfl, hB'⟩

set_option maxRecDepth 100000 in
set_option maxHeartbeats 2000000 in
theorem fParts_any (n d : ByteArray) (w : World) (hG : Ground w) (ha : n.size ≤ 100000) (hb : d.size ≤ 100000) :
    Calls Tryz.prog 123 #[.agg #[.string n, .string d]] w fun r w' => r = .returned (.tuple #[.string (cS (low (raw n d)).1), .string (cS (low (raw n d)).2)]) ∧ Below w.heap.size w w' := by
  have HP := Lib.hid (raw_pos n d)
  obtain ⟨W0, hW0⟩ : ∃ W0, W0 = w.alloc (.cells #[.string n, .string d] 36) := ⟨_, rfl⟩
  have hB0 : Below w.heap.size w W0 := by rw [hW0]; exact (Below.refl _ _).alloc (Nat.le_refl _) _
  go_enter Tryz.func123, Tryz.ntmps123
  go_wp2_with fail
  rw [← hW0]
  clear hW0
  refine (fValue_any n d W0 100001 (by omega) (by omega) (by decide)).mono ?_
  rintro _ w1 ⟨p, q, rfl, e1, e2, e3, e4, hB1⟩
  have hB := hB0.trans (hB1.mono hB0.size)
  have HE1 := Lib.hid e1
  have HE2 := Lib.hid e2
  clear hB1 hB0 e1 e2
  go_wp2_with fail
  refine (fLowest_v w1 (hG.below hB) (by omega) (by omega) HE1.out HE2.out HP.out).mono ?_
  rintro _ w2 ⟨rfl, hB2⟩
  have hB' := hB.trans (hB2.mono hB.size)
  clear hB hB2
  go_wp2_with fail
  go_region
  all_goals go_wp2_with fail
  all_goals go_ret2
  all_goals exact ⟨rfl, below_drewN (hB'.alloc hB'.size _) 1⟩

set_option maxRecDepth 100000 in
set_option maxHeartbeats 2000000 in
theorem fCheck_ok (n d : ByteArray) (w : World) (hG : Ground w) (ha : n.size ≤ 100000) (hb : d.size ≤ 100000) (hq : cS (low (raw n d)).1 = n ∧ cD (low (raw n d)).2 = d) :
    Calls Tryz.prog 129 #[.agg #[.string n, .string d]] w fun r w' => r = .returned (.int .i64 0) ∧ Below w.heap.size w w' := by
  have HP := Lib.hid (raw_pos n d)
  obtain ⟨W0, hW0⟩ : ∃ W0, W0 = w.alloc (.cells #[.string n, .string d] 36) := ⟨_, rfl⟩
  have hS : StX w W0 36 n d := by rw [hW0]; exact StX.made hG _ _ _
  go_enter Tryz.func129, Tryz.ntmps129
  go_wp2_with fail
  rw [← hW0]
  clear hW0
  obtain ⟨c0, c1, _, _⟩ := hS.x.cells
  have hg := frac_guard .neq (.tmp 5) (.tmp 6) (cS (red (raw n d).1 (raw n d).2).1) (cD (red (raw n d).1 (raw n d).2).2) n d
  have hq := frac_alike (a := cS (red (raw n d).1 (raw n d).2).1) (b := cD (red (raw n d).1 (raw n d).2).2) (c := n) (d := d) hq
  have HS := Lib.hid hS
  clear hS hG
  go_region_held3 (fun w' => w'.cell? ⟨w.heap.size, 0, none⟩ = some (.string n) ∧ w'.cell? ⟨w.heap.size, 1, none⟩ = some (.string d))
    (go_keep)
    (first
    | (go_at_call 97;
         (with_reducible refine Calls.mono (fValue_any n d _ 100001 (by omega) (by omega) (by decide)) ?_);
         (rintro e W1 ⟨p, q, rfl, e1, e2, e3, e4, hB1⟩);
         (have P1 := Lib.hid (And.intro (And.intro e1 e2) (And.intro e3 e4)));
         (have HS2 : StX w W1 _ n d := (by first | exact HS.out.next hB1 | exact HS.out.next1 hB1 | exact HS.out.nextD hB1));
         (replace HS := Lib.hid HS2);
         (clear hB1 HS2 e1 e2 e3 e4);
         (obtain ⟨c0, c1, _, _⟩ := HS.out.x.cells))
    | (go_at_call 92;
         (with_reducible refine Calls.mono (fCanonical_v (a := p) (b := q) _ (by first | exact HS.out.g | exact HS.out.drew.g | exact (HS.out.drewN _).g) (Nat.le_trans P1.out.2.1 (by decide)) (Nat.le_trans P1.out.2.2 (by decide)) P1.out.1.1 P1.out.1.2 HP.out) ?_);
         (rintro e W1 ⟨rfl, hB1⟩);
         (have HS2 : StX w W1 _ n d := (by first | exact HS.out.next hB1 | exact HS.out.next1 hB1 | exact HS.out.nextD hB1));
         (replace HS := Lib.hid HS2);
         (clear hB1 HS2);
         (obtain ⟨c0, c1, _, _⟩ := HS.out.x.cells)))
  all_goals go_wp2_with fail
  all_goals go_ret
  all_goals exact ⟨rfl, HS.out.below⟩

set_option maxRecDepth 100000 in
set_option maxHeartbeats 2000000 in
theorem fCheck_bad (n d : ByteArray) (w : World) (hG : Ground w) (ha : n.size ≤ 100000) (hb : d.size ≤ 100000) (hq : ¬ (cS (low (raw n d)).1 = n ∧ cD (low (raw n d)).2 = d)) :
    Calls Tryz.prog 129 #[.agg #[.string n, .string d]] w fun r w' => r = .returned (.int .i64 1) ∧ Below w.heap.size w w' := by
  have HP := Lib.hid (raw_pos n d)
  obtain ⟨W0, hW0⟩ : ∃ W0, W0 = w.alloc (.cells #[.string n, .string d] 36) := ⟨_, rfl⟩
  have hS : StX w W0 36 n d := by rw [hW0]; exact StX.made hG _ _ _
  go_enter Tryz.func129, Tryz.ntmps129
  go_wp2_with fail
  rw [← hW0]
  clear hW0
  obtain ⟨c0, c1, _, _⟩ := hS.x.cells
  have hg := frac_guard .neq (.tmp 5) (.tmp 6) (cS (red (raw n d).1 (raw n d).2).1) (cD (red (raw n d).1 (raw n d).2).2) n d
  have hq := frac_differ (a := cS (red (raw n d).1 (raw n d).2).1) (b := cD (red (raw n d).1 (raw n d).2).2) (c := n) (d := d) hq
  have HS := Lib.hid hS
  clear hS hG
  go_region_held3 (fun w' => w'.cell? ⟨w.heap.size, 0, none⟩ = some (.string n) ∧ w'.cell? ⟨w.heap.size, 1, none⟩ = some (.string d))
    (go_keep)
    (first
    | (go_at_call 97;
         (with_reducible refine Calls.mono (fValue_any n d _ 100001 (by omega) (by omega) (by decide)) ?_);
         (rintro e W1 ⟨p, q, rfl, e1, e2, e3, e4, hB1⟩);
         (have P1 := Lib.hid (And.intro (And.intro e1 e2) (And.intro e3 e4)));
         (have HS2 : StX w W1 _ n d := (by first | exact HS.out.next hB1 | exact HS.out.next1 hB1 | exact HS.out.nextD hB1));
         (replace HS := Lib.hid HS2);
         (clear hB1 HS2 e1 e2 e3 e4);
         (obtain ⟨c0, c1, _, _⟩ := HS.out.x.cells))
    | (go_at_call 92;
         (with_reducible refine Calls.mono (fCanonical_v (a := p) (b := q) _ (by first | exact HS.out.g | exact HS.out.drew.g | exact (HS.out.drewN _).g) (Nat.le_trans P1.out.2.1 (by decide)) (Nat.le_trans P1.out.2.2 (by decide)) P1.out.1.1 P1.out.1.2 HP.out) ?_);
         (rintro e W1 ⟨rfl, hB1⟩);
         (have HS2 : StX w W1 _ n d := (by first | exact HS.out.next hB1 | exact HS.out.next1 hB1 | exact HS.out.nextD hB1));
         (replace HS := Lib.hid HS2);
         (clear hB1 HS2);
         (obtain ⟨c0, c1, _, _⟩ := HS.out.x.cells)))
  all_goals go_wp2_with fail
  all_goals go_ret
  all_goals exact ⟨rfl, HS.out.below⟩

end Go.Proofs.YthhihdihkddakaaGreatDoor

/- The program's layer 2: text, Print, Power: the walks. -/
namespace Go.Proofs.YthhihdihkddakaaGreatDoor
open Go.RowKit Fra

/-- the text of a pair in lowest terms -/
def textP (p : Int × Int) : ByteArray := if p.2 = 1 then pS p.1 else pS p.1 ++ ⟨#[47]⟩ ++ pS p.2
theorem pS_size {k : Nat} {z : Int} (h : Cap k z) : (pS z).size ≤ k + 2 := by
  by_cases h0 : z = 0
  · rw [h0, pS_zero]; show 1 ≤ k + 2; omega
  · rw [pS_of_ne h0]; have := cS_size h; omega

/-! ### Powers -/
theorem pow_gcd {a b : Int} (h : Int.gcd a b = 1) (n : Nat) : Int.gcd (a ^ n) (b ^ n) = 1 := by
  unfold Int.gcd at *
  rw [Int.natAbs_pow, Int.natAbs_pow]
  exact Nat.Coprime.pow n n h
theorem Low.pow {p : Int × Int} (h : Low p) (n : Nat) : Low (p.1 ^ n, p.2 ^ n) := ⟨Int.pow_pos h.1, pow_gcd h.2 n⟩
/-- the value of a power: of the number p, in lowest terms -/
def powP (p : Int × Int) (e : Int) : Int × Int := redS (powU p.1 p.2 e).1 (powU p.1 p.2 e).2
theorem powP_nat {p : Int × Int} (h : Low p) (n : Nat) : powP p n = (p.1 ^ n, p.2 ^ n) := by
  unfold powP powU
  rw [if_pos (by omega)]
  show redS (p.1 ^ (n : Int).toNat) (p.2 ^ (n : Int).toNat) = _
  rw [Int.toNat_natCast, redS_red (Int.pow_pos h.1)]
  exact red_lowest (pow_gcd h.2 n)
theorem quoP_one {y : Int × Int} : quoP (1, 1) y = redS y.2 y.1 := by unfold quoP; rw [Int.one_mul, Int.one_mul]
theorem powP_neg {p y : Int × Int} (hy : 0 < y.2) (hs : Same p y) (h0 : p.1 ≠ 0) (n : Nat) : powP p (-(n : Int)) = ((quoP (1, 1) y).1 ^ n, (quoP (1, 1) y).2 ^ n) := by
  have hy0 : y.1 ≠ 0 := by
    intro e
    unfold Same at hs
    rw [e, Int.zero_mul] at hs
    rcases Int.mul_eq_zero.1 hs with h | h
    · exact h0 h
    · omega
  have hq : quoP (1, 1) y = redS p.2 p.1 := by
    rw [quoP_one]
    refine redS_eq hy0 h0 ?_
    unfold Same at hs
    rw [Int.mul_comm y.2, hs, Int.mul_comm]
  have hl : Low (quoP (1, 1) y) := by rw [quoP_one]; exact Low.of_redS hy0
  rw [← powP_nat hl n]
  unfold powP
  rw [hq]
  have hc := redS_cross (n := p.2) (d := p.1)
  have hpos := redS_pos (n := p.2) h0
  generalize redS p.2 p.1 = q at *
  by_cases hn : n = 0
  · subst hn; unfold powU; simp
  unfold powU
  rw [if_neg (by omega), if_pos (by omega)]
  simp only [Int.neg_neg, Int.toNat_natCast]
  refine redS_eq (pow_ne h0 n) (pow_ne (by omega) n) ?_
  rw [← Int.mul_pow, ← Int.mul_pow, ← hc]

theorem PairAt.set0 {W : World} {b : Nat} {t : TypeId} {x y : ByteArray} (h : PairAt W b t x y) (u : ByteArray) : PairAt (W.setCell ⟨b, 0, none⟩ (.string u)) b t u y := by
  have h1 := heap_setCell_same W b 0 _ _ (.string u) h
  unfold PairAt; rw [h1]; rfl
theorem PairAt.set1 {W : World} {b : Nat} {t : TypeId} {x y : ByteArray} (h : PairAt W b t x y) (u : ByteArray) : PairAt (W.setCell ⟨b, 1, none⟩ (.string u)) b t x u := by
  have h1 := heap_setCell_same W b 1 _ _ (.string u) h
  unfold PairAt; rw [h1]; rfl
theorem PairAt.setOther {W : World} {b : Nat} {t : TypeId} {x y : ByteArray} (h : PairAt W b t x y) {a : Addr} (hne : b ≠ a.block) (u : Value) : PairAt (W.setCell a u) b t x y := by
  unfold PairAt at *; rw [Below.heap_setCell W a u b hne]; exact h

theorem St1.setB {w W : World} {s t : TypeId} {a b : ByteArray} (h : St1 w W s t a b) (hG : Ground w) {B o : Nat} (hB : w.heap.size + 2 ≤ B) (v : Value) : St1 w (W.setCell ⟨B, o, none⟩ v) s t a b :=
  have hb := h.below.setCell (p := ⟨B, o, none⟩) (show w.heap.size ≤ B by omega) v
  ⟨hG.below hb, h.x.setOther (a := ⟨B, o, none⟩) (show w.heap.size ≠ B by omega) v, h.r.setOther (a := ⟨B, o, none⟩) (show w.heap.size + 1 ≠ B by omega) v, hb⟩

end Go.Proofs.YthhihdihkddakaaGreatDoor

/- The program's layer 2: Power with a negative exponent: the walk. -/
namespace Go.Proofs.YthhihdihkddakaaGreatDoor
open Go.RowKit Fra

theorem St1.drewN {w W : World} {s t : TypeId} {a b : ByteArray} (h : St1 w W s t a b) (q : Nat) : St1 w (W.drewN q) s t a b := ⟨(h.g.drewN q), h.x, h.r, below_drewN h.below q⟩
theorem St1.drew {w W : World} {s t : TypeId} {a b : ByteArray} (h : St1 w W s t a b) : St1 w W.drew s t a b := h.drewN 1
theorem St1.next1 {w W W1 : World} {s t : TypeId} {a b : ByteArray} (h : St1 w W s t a b) (hb : Below W.drew.heap.size W.drew W1) : St1 w W1 s t a b := h.drew.next hb
theorem St1.nextD {w W W1 : World} {q : Nat} {s t : TypeId} {a b : ByteArray} (h : St1 w W s t a b) (hb : Below (W.drewN q).heap.size (W.drewN q) W1) : St1 w W1 s t a b := (h.drewN q).next hb
theorem St1.alloc {w W : World} {s t : TypeId} {a b : ByteArray} (h : St1 w W s t a b) (o : Obj) : St1 w (W.alloc o) s t a b := h.next ((Below.refl _ _).alloc (Nat.le_refl _) _)
theorem St1.nextA {w W W1 : World} {s t : TypeId} {a b u v : ByteArray} {r : TypeId} (h : St1 w W s t a b) (hb : Below (W.alloc (.cells #[.string u, .string v] r)).heap.size (W.alloc (.cells #[.string u, .string v] r)) W1) :
    St1 w W1 s t a b ∧ PairAt W1 W.heap.size r u v := ⟨(h.alloc _).next hb, (PairAt.made W r u v).below hb⟩
theorem St1.nextDA {w W W1 : World} {s t : TypeId} {a b u v : ByteArray} {r : TypeId} (h : St1 w W s t a b) (hb : Below (W.drew.alloc (.cells #[.string u, .string v] r)).heap.size (W.drew.alloc (.cells #[.string u, .string v] r)) W1) :
    St1 w W1 s t a b ∧ PairAt W1 W.heap.size r u v := ⟨(h.drew.alloc _).next hb, (PairAt.made W.drew r u v).below hb⟩
theorem St1.nextAD {w W W1 : World} {s t : TypeId} {a b u v : ByteArray} {r : TypeId} (h : St1 w W s t a b) (hb : Below ((W.alloc (.cells #[.string u, .string v] r)).drew).heap.size ((W.alloc (.cells #[.string u, .string v] r)).drew) W1) :
    St1 w W1 s t a b ∧ PairAt W1 W.heap.size r u v := ⟨(h.alloc _).drew.next hb, (show PairAt ((W.alloc (.cells #[.string u, .string v] r)).drew) W.heap.size r u v from PairAt.made W r u v).below hb⟩
theorem St1.room {w W : World} {s t : TypeId} {a b : ByteArray} (h : St1 w W s t a b) : w.heap.size + 2 ≤ W.heap.size := by have := h.r.lt; omega
theorem raw_one_lit : raw ⟨#[49]⟩ ⟨#[]⟩ = (1, 1) := by decide +kernel
theorem fOf_one (w : World) (hG : Ground w) :
    Calls Tryz.prog 41 #[.string ⟨#[49]⟩] w fun e w' => e = .returned (.agg #[.string ⟨#[49]⟩, .string ⟨#[]⟩]) ∧ Below w.heap.size w w' := by
  have := fOf_any ⟨#[49]⟩ w hG (by decide)
  rwa [vS_one, cS_one] at this

end Go.Proofs.YthhihdihkddakaaGreatDoor

/- The program's layer 2: Parse: the walk, by the contract of strings.Cut. -/
namespace Go.Proofs.YthhihdihkddakaaGreatDoor
open Go.RowKit Fra

/-! ### Where the first slash stands -/
def slash (l : List UInt8) : Nat := (l.takeWhile (· != 47)).length
theorem slash_le (l : List UInt8) : slash l ≤ l.length := (List.takeWhile_sublist _).length_le
theorem index_slash : ∀ l : List UInt8, Lib.index l [47] = if slash l < l.length then (slash l : Int) else -1
  | [] => by simp [Lib.index, slash]
  | b :: l => by
    have ih := index_slash l
    by_cases h : b = 47
    · subst h; simp [Lib.index, slash, List.isPrefixOf]
    · have e : slash (b :: l) = slash l + 1 := by simp [slash, h]
      have hp : List.isPrefixOf [47] (b :: l) = false := by simp [List.isPrefixOf]; exact fun e => h e.symm
      rw [Lib.index, hp, ih, e]
      by_cases h2 : slash l < l.length
      · have : ¬ ((slash l : Int) == -1) = true := by simp
        simp [h2, this]
      · simp [h2]
theorem cut_slash (l : List UInt8) : (Lib.cut l [47]).1 = l.take (slash l) ∧ (Lib.cut l [47]).2.1 = l.drop (slash l + 1) := by
  unfold Lib.cut
  rw [index_slash]
  by_cases h : slash l < l.length
  · rw [if_pos h, if_pos (by omega)]; simp
  · have hl : slash l = l.length := by have := slash_le l; omega
    rw [if_neg h, if_neg (by omega), hl]; simp
theorem slash_none : ∀ {l : List UInt8}, (∀ b ∈ l, b ≠ 47) → slash l = l.length
  | [], _ => rfl
  | b :: l, h => by
    have hb : b ≠ 47 := h b (by simp)
    have ih := slash_none (l := l) (fun c hc => h c (by simp [hc]))
    have e : slash (b :: l) = slash l + 1 := by simp [slash, hb]
    rw [e, ih]; rfl
theorem slash_app {l r : List UInt8} (h : ∀ b ∈ l, b ≠ 47) : slash (l ++ 47 :: r) = l.length := by
  unfold slash
  rw [List.takeWhile_append_of_pos (fun b hb => by simpa using h b hb)]
  simp
theorem itoa_slash (z : Int) : ∀ b ∈ Lib.itoa z, b ≠ 47 := by
  have hd : ∀ n : Nat, ∀ b ∈ Lib.decDigits n, b ≠ 47 := fun n b hb => by
    have := List.all_eq_true.1 (Num.all_decDigits n) b hb
    have := (Num.isDig_iff b).1 this
    intro e; subst e; revert this; decide
  intro b hb
  unfold Lib.itoa at hb
  split at hb
  · rcases List.mem_cons.1 hb with h | h
    · subst h; decide
    · exact hd _ b h
  · exact hd _ b hb

/-- the text ahead of the slash, and behind it -/
def numS (s : ByteArray) : ByteArray := ⟨(s.data.toList.take (slash s.data.toList)).toArray⟩
def denS (s : ByteArray) : ByteArray := ⟨(s.data.toList.drop (slash s.data.toList + 1)).toArray⟩
theorem numS_size (s : ByteArray) : (numS s).size ≤ s.size := by
  rw [← size_toList (numS s)]; unfold numS; simp; omega
theorem denS_size (s : ByteArray) : (denS s).size ≤ s.size := by
  rw [← size_toList (denS s)]; unfold denS; simp
theorem textP_list (p : Int × Int) : (textP p).data.toList = if p.2 = 1 then Lib.itoa p.1 else Lib.itoa p.1 ++ 47 :: Lib.itoa p.2 := by
  unfold textP
  split
  · rfl
  · simp [pS, ByteArray.data_append]
theorem numS_text (p : Int × Int) : numS (textP p) = pS p.1 := by
  unfold numS
  rw [textP_list]
  split
  · rw [slash_none (itoa_slash _), List.take_length]; rfl
  · rw [slash_app (itoa_slash _), List.take_left]; rfl
theorem denS_text (p : Int × Int) : denS (textP p) = if p.2 = 1 then ⟨#[]⟩ else pS p.2 := by
  unfold denS
  rw [textP_list]
  by_cases h : p.2 = 1
  · rw [if_pos h, if_pos h, slash_none (itoa_slash _), List.drop_eq_nil_of_le (by omega)]
  · rw [if_neg h, if_neg h, slash_app (itoa_slash _), ← List.drop_drop, List.drop_left]; rfl
/-- the number that a text would have -/
def parseV (s : ByteArray) : Int × Int := low (raw (numS s) (denS s))
theorem parseV_low (s : ByteArray) : Low (parseV s) := Low.of_low (raw_pos _ _)
theorem raw_text {p : Int × Int} (h : Low p) : raw (numS (textP p)) (denS (textP p)) = p := by
  rw [numS_text, denS_text]
  unfold raw
  by_cases h1 : p.2 = 1
  · rw [if_pos h1, vS_pS, vS_nil, rawP_zero]; exact Prod.ext rfl h1.symm
  · rw [if_neg h1, vS_pS, vS_pS, rawP_of_pos h.1]
theorem parseV_text {p : Int × Int} (h : Low p) : parseV (textP p) = p := by
  unfold parseV; rw [raw_text h, h.eq]

end Go.Proofs.YthhihdihkddakaaGreatDoor
