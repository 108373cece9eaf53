/- The program's layer 2: Quo, Compare, Floor, Parts, Check: the walks. -/
import Derived.Test.YtldohkfomdcpoaaDoorFwf
import Derived.Laws.StructEq
namespace Go.Proofs.YtldohkfomdcpoaaDoor
open Go.RowKit Fra

/-! ### Fractions compared with == -/
theorem frac_guard (op : BinOp) (x y : Operand) (a b c d : ByteArray) (W : World) : (eqGuard op 24 x y (.agg #[.string a, .string b]) (.agg #[.string c, .string d])).run Tryd.prog W = .ok () W :=
  run_eqGuard_agg W op _ x y _ _ (by kernel_rfl)
theorem frac_equal (a b c d : ByteArray) (W : World) : (Op.equalIn 10000 24 (.agg #[.string a, .string b]) (.agg #[.string c, .string d])).run Tryd.prog W = .ok (a.toList == c.toList && b.toList == d.toList) W := by
  rw [run_equalIn_agg W 9999 24 _ _ (by kernel_rfl) (by kernel_rfl)]
  have hf : (Tryd.prog.fieldsOf 24).toList = [⟨"Num", 22, 0, false, "", "", 0⟩, ⟨"Den", 22, 1, false, "", "", 16⟩] := by kernel_rfl
  rw [hf]
  simp [Op.eqFields, go_sem]
  by_cases h1 : a.toList = c.toList
  · by_cases h2 : b.toList = d.toList
    · simp [h1, h2]
    · rw [if_pos h1, if_neg h2]; simp [h2]
  · rw [if_neg h1]; simp [h1]
theorem frac_eql (a b c d : ByteArray) (W : World) : (binOp .eql 24 (.agg #[.string a, .string b]) (.agg #[.string c, .string d])).run Tryd.prog W = .ok (.bool (a.toList == c.toList && b.toList == d.toList)) W := by
  rw [run_eql_struct, frac_equal]; rfl
theorem frac_neq (a b c d : ByteArray) (W : World) : (binOp .neq 24 (.agg #[.string a, .string b]) (.agg #[.string c, .string d])).run Tryd.prog W = .ok (.bool (!(a.toList == c.toList && b.toList == d.toList))) W := by
  rw [run_neq_struct, frac_equal]; rfl
theorem frac_same (a b : ByteArray) (W : World) : (binOp .eql 24 (.agg #[.string a, .string b]) (.agg #[.string a, .string b])).run Tryd.prog W = .ok (.bool true) W := by
  rw [frac_eql]; simp
theorem frac_other {a b c d : ByteArray} (h : ¬ (a = c ∧ b = d)) : (a.toList == c.toList && b.toList == d.toList) = false := by
  rw [beq_toList, beq_toList, Bool.and_eq_false_iff]
  by_cases h1 : a = c
  · exact .inr (decide_eq_false (fun h2 => h ⟨h1, h2⟩))
  · exact .inl (decide_eq_false h1)
theorem frac_differ {a b c d : ByteArray} (h : ¬ (a = c ∧ b = d)) (W : World) : (binOp .neq 24 (.agg #[.string a, .string b]) (.agg #[.string c, .string d])).run Tryd.prog W = .ok (.bool true) W := by
  rw [frac_neq, frac_other h]; rfl
theorem frac_alike {a b c d : ByteArray} (h : a = c ∧ b = d) (W : World) : (binOp .neq 24 (.agg #[.string a, .string b]) (.agg #[.string c, .string d])).run Tryd.prog W = .ok (.bool false) W := by
  rw [frac_neq, h.1, h.2]; simp
theorem frac_eql_ne {a b c d : ByteArray} (h : ¬ (a = c ∧ b = d)) (W : World) : (binOp .eql 24 (.agg #[.string a, .string b]) (.agg #[.string c, .string d])).run Tryd.prog W = .ok (.bool false) W := by
  rw [frac_eql, frac_other h]

/-- a box behind some calls -/
structure StX (w W : World) (s : TypeId) (a b : ByteArray) : Prop where
  g : Ground W
  x : PairAt W w.heap.size s a b
  below : Below w.heap.size w W
theorem StX.next {w W W1 : World} {s : TypeId} {a b : ByteArray} (h : StX w W s a b) (hb : Below W.heap.size W W1) : StX w W1 s a b := ⟨h.g.below hb, h.x.below hb, h.below.trans (hb.mono h.below.size)⟩
theorem StX.drewN {w W : World} {s : TypeId} {a b : ByteArray} (h : StX w W s a b) (q : Nat) : StX w (W.drewN q) s a b := ⟨⟨h.g.tab, h.g.max⟩, h.x, below_drewN h.below q⟩
theorem StX.drew {w W : World} {s : TypeId} {a b : ByteArray} (h : StX w W s a b) : StX w W.drew s a b := h.drewN 1
theorem StX.next1 {w W W1 : World} {s : TypeId} {a b : ByteArray} (h : StX w W s a b) (hb : Below W.drew.heap.size W.drew W1) : StX w W1 s a b := h.drew.next hb
theorem StX.nextD {w W W1 : World} {q : Nat} {s : TypeId} {a b : ByteArray} (h : StX w W s a b) (hb : Below (W.drewN q).heap.size (W.drewN q) W1) : StX w W1 s a b := (h.drewN q).next hb
theorem StX.made {w : World} (hG : Ground w) (s : TypeId) (a b : ByteArray) : StX w (w.alloc (.cells #[.string a, .string b] s)) s a b :=
  have hB : Below w.heap.size w (w.alloc (.cells #[.string a, .string b] s)) := (Below.refl _ _).alloc (Nat.le_refl _) _
  ⟨hG.below hB, PairAt.made w s a b, hB⟩

set_option maxRecDepth 100000 in
set_option maxHeartbeats 2000000 in
theorem fQuo_zero (n d m e : ByteArray) (w : World) (hG : Ground w) (hc : m.size ≤ 100000) (h0 : (raw m e).1 = 0) :
    Calls Tryd.prog 15 #[.agg #[.string n, .string d], .agg #[.string m, .string e]] w fun r w' => r = .returned (.tuple #[.agg #[.string ⟨#[]⟩, .string ⟨#[]⟩], .int .i64 10]) ∧ Below w.heap.size w w' := by
  have HD := Lib.hid (decide_eq_true (raw_zero_iff.1 h0))
  clear h0
  obtain ⟨W0, hW0⟩ : ∃ W0, W0 = ((w.alloc (.cells #[.string n, .string d] 24)).alloc (.cells #[.string m, .string e] 24)).alloc (.cells #[.string ⟨#[]⟩, .string ⟨#[]⟩] 24) := ⟨_, rfl⟩
  have hS : St2 w W0 24 24 n d m e := by rw [hW0]; exact St2.made hG _ _ _ _ _ _
  obtain ⟨c0, c1, c2, c3, c4, c5, c6, c7⟩ := hS.cells
  go_enter Tryd.func15, Tryd.ntmps15
  go_wp2_with fail
  rw [← hW0]
  clear hW0
  refine (fZero_any m _ (by omega)).mono ?_
  rintro _ _ ⟨rfl, rfl⟩
  rw [HD.out]
  go_wp2_with fail
  obtain ⟨k0, k1, _, _⟩ := (hS.r.put ⟨#[]⟩ ⟨#[]⟩).cells
  exact bodyPost_ret (v := .tuple #[.agg #[.string ⟨#[]⟩, .string ⟨#[]⟩], .int .i64 10]) (by simp [results, Tryd.results15, go_sem, k0, k1]) rfl ⟨rfl, below_put hS.below (by omega) _ _⟩

set_option maxRecDepth 100000 in
set_option maxHeartbeats 2000000 in
theorem fQuo_any (n d m e : ByteArray) (w : World) (hG : Ground w) (ha : n.size ≤ 100000) (hb : d.size ≤ 100000) (hc : m.size ≤ 100000) (hd : e.size ≤ 100000) (h0 : (raw m e).1 ≠ 0) :
    Calls Tryd.prog 15 #[.agg #[.string n, .string d], .agg #[.string m, .string e]] w fun r w' => r = .returned (.tuple #[.agg #[.string (cS (quoP (raw n d) (raw m e)).1), .string (cD (quoP (raw n d) (raw m e)).2)], .int .i64 0]) ∧ Below w.heap.size w w' := by
  have HD := Lib.hid (decide_eq_false (fun h => h0 (raw_zero_iff.2 h)))
  have H0 := Lib.hid h0
  have cx := CapP.of_raw (k := 100000) (by decide) ha hb
  have cy := CapP.of_raw (k := 100000) (by decide) hc hd
  have cr := CapP.of_rawP (by decide) cy.2 cy.1
  have HU := Lib.hid (show (cS ((raw n d).1 * (rawP (raw m e).2 (raw m e).1).1)).size ≤ 4294967294 from size_of (Cap.mul cx.1 cr.1) (by decide))
  have HV := Lib.hid (show (cS ((raw n d).2 * (rawP (raw m e).2 (raw m e).1).2)).size ≤ 4294967294 from size_of (Cap.mul cx.2 cr.2) (by decide))
  have HE := Lib.hid (quo_red (x1 := (raw n d).1) (y2 := (raw m e).2) (raw_pos n d) h0)
  have HP := Lib.hid (Int.mul_pos (raw_pos n d) (rawP_pos (raw m e).2 (raw m e).1))
  clear h0 cx cy cr
  obtain ⟨W0, hW0⟩ : ∃ W0, W0 = ((w.alloc (.cells #[.string n, .string d] 24)).alloc (.cells #[.string m, .string e] 24)).alloc (.cells #[.string ⟨#[]⟩, .string ⟨#[]⟩] 24) := ⟨_, rfl⟩
  have hS : St2 w W0 24 24 n d m e := by rw [hW0]; exact St2.made hG _ _ _ _ _ _
  obtain ⟨c0, c1, c2, c3, _, _, _, _⟩ := hS.cells
  go_enter Tryd.func15, Tryd.ntmps15
  go_wp2_with fail
  rw [← hW0]
  clear hW0
  refine (fZero_any m _ (by omega)).mono ?_
  rintro _ _ ⟨rfl, rfl⟩
  rw [HD.out]
  go_wp2_with fail
  refine (fApplyQuo_any n d m e W0 hS.g ha hb hc hd H0.out).mono ?_
  rintro _ w1 ⟨rfl, hB1⟩
  have hS1 := hS.next hB1
  clear hB1 c0 c1 c2 c3 hS
  go_wp2_with fail
  refine (show Calls _ _ _ w1 (FPost w1 (quoP (raw n d) (raw m e))) from by have := fCanonical_v w1 hS1.g HU.out HV.out (vS_cS _) (vS_cS _) HP.out; rwa [HE.out] at this).mono ?_
  rintro _ w2 ⟨rfl, hB2⟩
  have hS2 := hS1.next hB2
  clear hB2 hS1
  obtain ⟨_, _, _, _, c4, c5, c6, c7⟩ := hS2.cells
  go_wp2_with fail
  obtain ⟨k0, k1, _, _⟩ := (hS2.r.put (cS (quoP (raw n d) (raw m e)).1) (cD (quoP (raw n d) (raw m e)).2)).cells
  exact bodyPost_ret (v := .tuple #[.agg #[.string (cS (quoP (raw n d) (raw m e)).1), .string (cD (quoP (raw n d) (raw m e)).2)], .int .i64 0]) (by simp [results, Tryd.results15, go_sem, k0, k1]) rfl ⟨rfl, below_put hS2.below (by omega) _ _⟩

set_option maxRecDepth 100000 in
set_option maxHeartbeats 2000000 in
theorem fCompare_any (n d m e : ByteArray) (w : World) (hG : Ground w) (ha : n.size ≤ 100000) (hb : d.size ≤ 100000) (hc : m.size ≤ 100000) (hd : e.size ≤ 100000) :
    Calls Tryd.prog 16 #[.agg #[.string n, .string d], .agg #[.string m, .string e]] w fun r w' => r = .returned (.int .i64 (cmpS (raw n d) (raw m e))) ∧ Below w.heap.size w w' := by
  have cx := CapP.of_raw (k := 100000) (by decide) ha hb
  have cy := CapP.of_raw (k := 100000) (by decide) hc hd
  have HU := Lib.hid (show (cS ((raw n d).1 * (raw m e).2 + -(raw m e).1 * (raw n d).2)).size ≤ 4294967294 from size_of (Cap.add (Cap.mul cx.1 cy.2) (Cap.mul cy.1.neg cx.2)) (by decide))
  clear cx cy
  obtain ⟨W0, hW0⟩ : ∃ W0, W0 = (w.alloc (.cells #[.string n, .string d] 24)).alloc (.cells #[.string m, .string e] 24) := ⟨_, rfl⟩
  have hB0 : Below w.heap.size w W0 := by rw [hW0]; exact below_two _ _ _
  go_enter Tryd.func16, Tryd.ntmps16
  go_wp2_with fail
  rw [← hW0]
  clear hW0
  refine (fApplySub_any n d m e W0 (hG.below hB0) ha hb hc hd).mono ?_
  rintro _ w1 ⟨rfl, hB1⟩
  have hB := hB0.trans (hB1.mono hB0.size)
  clear hB1 hB0
  have hfd : ∀ (a b : ByteArray) (W : World), (Instr.field 54 (.agg #[.string a, .string b]) 0).run Tryd.prog W = .ok (.string a) W := fun _ _ _ => by kernel_rfl
  go_wp2_with fail
  refine (compare_v (y := 0) (z := cmpS (raw n d) (raw m e)) w1 (Nat.le_trans HU.out (by decide)) (by decide) (vS_cS _) vS_nil rfl).mono ?_
  rintro _ w2 ⟨rfl, hB2⟩
  have hB' := hB.trans (hB2.mono hB.size)
  clear hB2 hB
  go_wp2_with fail
  go_ret
  exact ⟨rfl, hB'⟩

set_option maxRecDepth 100000 in
set_option maxHeartbeats 2000000 in
theorem fFloor_any (n d : ByteArray) (w : World) (hG : Ground w) (ha : n.size ≤ 100000) (hb : d.size ≤ 100000) :
    Calls Tryd.prog 17 #[.agg #[.string n, .string d]] w (StrPost w (Int.fdiv (raw n d).1 (raw n d).2)) := by
  have HP := Lib.hid (raw_pos n d)
  obtain ⟨W0, hW0⟩ : ∃ W0, W0 = w.alloc (.cells #[.string n, .string d] 24) := ⟨_, rfl⟩
  have hB0 : Below w.heap.size w W0 := by rw [hW0]; exact (Below.refl _ _).alloc (Nat.le_refl _) _
  go_enter Tryd.func17, Tryd.ntmps17
  go_wp2_with fail
  rw [← hW0]
  clear hW0
  refine (fValue_any n d W0 100001 (by omega) (by omega) (by decide)).mono ?_
  rintro _ w1 ⟨p, q, rfl, e1, e2, e3, e4, hB1⟩
  have hB := hB0.trans (hB1.mono hB0.size)
  have HE1 := Lib.hid e1
  have HE2 := Lib.hid e2
  clear hB1 hB0 e1 e2
  go_wp2_with fail
  obtain ⟨W2, hW2⟩ : ∃ W2, W2 = w1.alloc (.cells #[.string p, .string q] 54) := ⟨_, rfl⟩
  have hB2 : Below w.heap.size w W2 := by rw [hW2]; exact hB.alloc hB.size _
  rw [← hW2]
  clear hW2 hB
  refine (div_v (q := Int.fdiv (raw n d).1 (raw n d).2) W2 (hG.below hB2) (by omega) (by omega) HE1.out HE2.out (by have := HP.out; omega) rfl rfl).mono ?_
  rintro _ w3 ⟨rfl, hB3⟩
  have hB' := hB2.trans (hB3.mono hB2.size)
  clear hB2 hB3
  go_wp2_with fail
  go_ret
  exact ⟨rfl, hB'⟩

set_option maxRecDepth 100000 in
set_option maxHeartbeats 2000000 in
theorem fParts_any (n d : ByteArray) (w : World) (hG : Ground w) (ha : n.size ≤ 100000) (hb : d.size ≤ 100000) :
    Calls Tryd.prog 21 #[.agg #[.string n, .string d]] w fun r w' => r = .returned (.tuple #[.string (cS (low (raw n d)).1), .string (cS (low (raw n d)).2)]) ∧ Below w.heap.size w w' := by
  have HP := Lib.hid (raw_pos n d)
  obtain ⟨W0, hW0⟩ : ∃ W0, W0 = w.alloc (.cells #[.string n, .string d] 24) := ⟨_, rfl⟩
  have hB0 : Below w.heap.size w W0 := by rw [hW0]; exact (Below.refl _ _).alloc (Nat.le_refl _) _
  go_enter Tryd.func21, Tryd.ntmps21
  go_wp2_with fail
  rw [← hW0]
  clear hW0
  refine (fValue_any n d W0 100001 (by omega) (by omega) (by decide)).mono ?_
  rintro _ w1 ⟨p, q, rfl, e1, e2, e3, e4, hB1⟩
  have hB := hB0.trans (hB1.mono hB0.size)
  have HE1 := Lib.hid e1
  have HE2 := Lib.hid e2
  clear hB1 hB0 e1 e2
  go_wp2_with fail
  refine (fLowest_v w1 (hG.below hB) (by omega) (by omega) HE1.out HE2.out HP.out).mono ?_
  rintro _ w2 ⟨rfl, hB2⟩
  have hB' := hB.trans (hB2.mono hB.size)
  clear hB hB2
  go_wp2_with fail
  go_region
  all_goals go_wp2_with fail
  all_goals go_ret2
  all_goals exact ⟨rfl, below_drewN (hB'.alloc hB'.size _) 1⟩

set_option maxRecDepth 100000 in
set_option maxHeartbeats 2000000 in
theorem fCheck_ok (n d : ByteArray) (w : World) (hG : Ground w) (ha : n.size ≤ 100000) (hb : d.size ≤ 100000) (hq : cS (low (raw n d)).1 = n ∧ cD (low (raw n d)).2 = d) :
    Calls Tryd.prog 23 #[.agg #[.string n, .string d]] w fun r w' => r = .returned (.int .i64 0) ∧ Below w.heap.size w w' := by
  have HP := Lib.hid (raw_pos n d)
  obtain ⟨W0, hW0⟩ : ∃ W0, W0 = w.alloc (.cells #[.string n, .string d] 24) := ⟨_, rfl⟩
  have hS : StX w W0 24 n d := by rw [hW0]; exact StX.made hG _ _ _
  go_enter Tryd.func23, Tryd.ntmps23
  go_wp2_with fail
  rw [← hW0]
  clear hW0
  obtain ⟨c0, c1, _, _⟩ := hS.x.cells
  have hg := frac_guard .neq (.tmp 5) (.tmp 6) (cS (red (raw n d).1 (raw n d).2).1) (cD (red (raw n d).1 (raw n d).2).2) n d
  have hq := frac_alike (a := cS (red (raw n d).1 (raw n d).2).1) (b := cD (red (raw n d).1 (raw n d).2).2) (c := n) (d := d) hq
  have HS := Lib.hid hS
  clear hS hG
  go_region_held3 (fun w' => w'.cell? ⟨w.heap.size, 0, none⟩ = some (.string n) ∧ w'.cell? ⟨w.heap.size, 1, none⟩ = some (.string d))
    (go_keep)
    (first
    | (go_at_call 32;
         (with_reducible refine Calls.mono (fValue_any n d _ 100001 (by omega) (by omega) (by decide)) ?_);
         (rintro e W1 ⟨p, q, rfl, e1, e2, e3, e4, hB1⟩);
         (have P1 := Lib.hid (And.intro (And.intro e1 e2) (And.intro e3 e4)));
         (have HS2 : StX w W1 _ n d := (by first | exact HS.out.next hB1 | exact HS.out.next1 hB1 | exact HS.out.nextD hB1));
         (replace HS := Lib.hid HS2);
         (clear hB1 HS2 e1 e2 e3 e4);
         (obtain ⟨c0, c1, _, _⟩ := HS.out.x.cells))
    | (go_at_call 30;
         (with_reducible refine Calls.mono (fCanonical_v (a := p) (b := q) _ (by first | exact HS.out.g | exact HS.out.drew.g | exact (HS.out.drewN _).g) (Nat.le_trans P1.out.2.1 (by decide)) (Nat.le_trans P1.out.2.2 (by decide)) P1.out.1.1 P1.out.1.2 HP.out) ?_);
         (rintro e W1 ⟨rfl, hB1⟩);
         (have HS2 : StX w W1 _ n d := (by first | exact HS.out.next hB1 | exact HS.out.next1 hB1 | exact HS.out.nextD hB1));
         (replace HS := Lib.hid HS2);
         (clear hB1 HS2);
         (obtain ⟨c0, c1, _, _⟩ := HS.out.x.cells)))
  all_goals go_wp2_with fail
  all_goals go_ret
  all_goals exact ⟨rfl, HS.out.below⟩

set_option maxRecDepth 100000 in
set_option maxHeartbeats 2000000 in
theorem fCheck_bad (n d : ByteArray) (w : World) (hG : Ground w) (ha : n.size ≤ 100000) (hb : d.size ≤ 100000) (hq : ¬ (cS (low (raw n d)).1 = n ∧ cD (low (raw n d)).2 = d)) :
    Calls Tryd.prog 23 #[.agg #[.string n, .string d]] w fun r w' => r = .returned (.int .i64 1) ∧ Below w.heap.size w w' := by
  have HP := Lib.hid (raw_pos n d)
  obtain ⟨W0, hW0⟩ : ∃ W0, W0 = w.alloc (.cells #[.string n, .string d] 24) := ⟨_, rfl⟩
  have hS : StX w W0 24 n d := by rw [hW0]; exact StX.made hG _ _ _
  go_enter Tryd.func23, Tryd.ntmps23
  go_wp2_with fail
  rw [← hW0]
  clear hW0
  obtain ⟨c0, c1, _, _⟩ := hS.x.cells
  have hg := frac_guard .neq (.tmp 5) (.tmp 6) (cS (red (raw n d).1 (raw n d).2).1) (cD (red (raw n d).1 (raw n d).2).2) n d
  have hq := frac_differ (a := cS (red (raw n d).1 (raw n d).2).1) (b := cD (red (raw n d).1 (raw n d).2).2) (c := n) (d := d) hq
  have HS := Lib.hid hS
  clear hS hG
  go_region_held3 (fun w' => w'.cell? ⟨w.heap.size, 0, none⟩ = some (.string n) ∧ w'.cell? ⟨w.heap.size, 1, none⟩ = some (.string d))
    (go_keep)
    (first
    | (go_at_call 32;
         (with_reducible refine Calls.mono (fValue_any n d _ 100001 (by omega) (by omega) (by decide)) ?_);
         (rintro e W1 ⟨p, q, rfl, e1, e2, e3, e4, hB1⟩);
         (have P1 := Lib.hid (And.intro (And.intro e1 e2) (And.intro e3 e4)));
         (have HS2 : StX w W1 _ n d := (by first | exact HS.out.next hB1 | exact HS.out.next1 hB1 | exact HS.out.nextD hB1));
         (replace HS := Lib.hid HS2);
         (clear hB1 HS2 e1 e2 e3 e4);
         (obtain ⟨c0, c1, _, _⟩ := HS.out.x.cells))
    | (go_at_call 30;
         (with_reducible refine Calls.mono (fCanonical_v (a := p) (b := q) _ (by first | exact HS.out.g | exact HS.out.drew.g | exact (HS.out.drewN _).g) (Nat.le_trans P1.out.2.1 (by decide)) (Nat.le_trans P1.out.2.2 (by decide)) P1.out.1.1 P1.out.1.2 HP.out) ?_);
         (rintro e W1 ⟨rfl, hB1⟩);
         (have HS2 : StX w W1 _ n d := (by first | exact HS.out.next hB1 | exact HS.out.next1 hB1 | exact HS.out.nextD hB1));
         (replace HS := Lib.hid HS2);
         (clear hB1 HS2);
         (obtain ⟨c0, c1, _, _⟩ := HS.out.x.cells)))
  all_goals go_wp2_with fail
  all_goals go_ret
  all_goals exact ⟨rfl, HS.out.below⟩

end Go.Proofs.YtldohkfomdcpoaaDoor
