/- The program's layer 2: Quo, Compare, Floor, Parts, Check: the walks. -/
import Derived.Test.YtldohkfomdcpoaaGreatDoorMB
import Derived.Test.YtldohkfomdcpoaaGreatDoorShelfCut
import Derived.Laws.StructEq
import Derived.Deep.Cut
import Derived.Lib.CutLaws
namespace Go.Proofs.YtldohkfomdcpoaaGreatDoor
open Go.RowKit Fra

/-! ### Fractions compared with == -/
theorem frac_guard (op : BinOp) (x y : Operand) (a b c d : ByteArray) (W : World) : (eqGuard op 24 x y (.agg #[.string a, .string b]) (.agg #[.string c, .string d])).run Tryz.prog W = .ok () W :=
  run_eqGuard_agg W op _ x y _ _ (by kernel_rfl)
theorem frac_equal (a b c d : ByteArray) (W : World) : (Op.equalIn 10000 24 (.agg #[.string a, .string b]) (.agg #[.string c, .string d])).run Tryz.prog W = .ok (a.toList == c.toList && b.toList == d.toList) W := by
  rw [run_equalIn_agg W 9999 24 _ _ (by kernel_rfl) (by kernel_rfl)]
  have hf : (Tryz.prog.fieldsOf 24).toList = [⟨"Num", 22, 0, false, "", "", 0⟩, ⟨"Den", 22, 1, false, "", "", 16⟩] := by kernel_rfl
  rw [hf]
  simp [Op.eqFields, go_sem]
  by_cases h1 : a.toList = c.toList
  · by_cases h2 : b.toList = d.toList
    · simp [h1, h2]
    · rw [if_pos h1, if_neg h2]; simp [h2]
  · rw [if_neg h1]; simp [h1]
theorem frac_eql (a b c d : ByteArray) (W : World) : (binOp .eql 24 (.agg #[.string a, .string b]) (.agg #[.string c, .string d])).run Tryz.prog W = .ok (.bool (a.toList == c.toList && b.toList == d.toList)) W := by
  rw [run_eql_struct, frac_equal]; rfl
theorem frac_neq (a b c d : ByteArray) (W : World) : (binOp .neq 24 (.agg #[.string a, .string b]) (.agg #[.string c, .string d])).run Tryz.prog W = .ok (.bool (!(a.toList == c.toList && b.toList == d.toList))) W := by
  rw [run_neq_struct, frac_equal]; rfl
theorem frac_same (a b : ByteArray) (W : World) : (binOp .eql 24 (.agg #[.string a, .string b]) (.agg #[.string a, .string b])).run Tryz.prog W = .ok (.bool true) W := by
  rw [frac_eql]; simp
theorem frac_other {a b c d : ByteArray} (h : ¬ (a = c ∧ b = d)) : (a.toList == c.toList && b.toList == d.toList) = false := by
  rw [beq_toList, beq_toList, Bool.and_eq_false_iff]
  by_cases h1 : a = c
  · exact .inr (decide_eq_false (fun h2 => h ⟨h1, h2⟩))
  · exact .inl (decide_eq_false h1)
theorem frac_differ {a b c d : ByteArray} (h : ¬ (a = c ∧ b = d)) (W : World) : (binOp .neq 24 (.agg #[.string a, .string b]) (.agg #[.string c, .string d])).run Tryz.prog W = .ok (.bool true) W := by
  rw [frac_neq, frac_other h]; rfl
theorem frac_alike {a b c d : ByteArray} (h : a = c ∧ b = d) (W : World) : (binOp .neq 24 (.agg #[.string a, .string b]) (.agg #[.string c, .string d])).run Tryz.prog W = .ok (.bool false) W := by
  rw [frac_neq, h.1, h.2]; simp
theorem frac_eql_ne {a b c d : ByteArray} (h : ¬ (a = c ∧ b = d)) (W : World) : (binOp .eql 24 (.agg #[.string a, .string b]) (.agg #[.string c, .string d])).run Tryz.prog W = .ok (.bool false) W := by
  rw [frac_eql, frac_other h]

/-- a box behind some calls -/
structure StX (w W : World) (s : TypeId) (a b : ByteArray) : Prop where
  g : Ground W
  x : PairAt W w.heap.size s a b
  below : Below w.heap.size w W
theorem StX.next {w W W1 : World} {s : TypeId} {a b : ByteArray} (h : StX w W s a b) (hb : Below W.heap.size W W1) : StX w W1 s a b := ⟨h.g.below hb, h.x.below hb, h.below.trans (hb.mono h.below.size)⟩
theorem StX.drewN {w W : World} {s : TypeId} {a b : ByteArray} (h : StX w W s a b) (q : Nat) : StX w (W.drewN q) s a b := ⟨⟨h.g.tab, h.g.max⟩, h.x, below_drewN h.below q⟩
theorem StX.drew {w W : World} {s : TypeId} {a b : ByteArray} (h : StX w W s a b) : StX w W.drew s a b := h.drewN 1
theorem StX.next1 {w W W1 : World} {s : TypeId} {a b : ByteArray} (h : StX w W s a b) (hb : Below W.drew.heap.size W.drew W1) : StX w W1 s a b := h.drew.next hb
theorem StX.nextD {w W W1 : World} {q : Nat} {s : TypeId} {a b : ByteArray} (h : StX w W s a b) (hb : Below (W.drewN q).heap.size (W.drewN q) W1) : StX w W1 s a b := (h.drewN q).next hb
theorem StX.made {w : World} (hG : Ground w) (s : TypeId) (a b : ByteArray) : StX w (w.alloc (.cells #[.string a, .string b] s)) s a b :=
  have hB : Below w.heap.size w (w.alloc (.cells #[.string a, .string b] s)) := (Below.refl _ _).alloc (Nat.le_refl _) _
  ⟨hG.below hB, PairAt.made w s a b, hB⟩

set_option maxRecDepth 100000 in
set_option maxHeartbeats 2000000 in
theorem fQuo_zero (n d m e : ByteArray) (w : World) (hG : Ground w) (hc : m.size ≤ 100000) (h0 : (raw m e).1 = 0) :
    Calls Tryz.prog 20 #[.agg #[.string n, .string d], .agg #[.string m, .string e]] w fun r w' => r = .returned (.tuple #[.agg #[.string ⟨#[]⟩, .string ⟨#[]⟩], .int .i64 10]) ∧ Below w.heap.size w w' := by
  have HD := Lib.hid (decide_eq_true (raw_zero_iff.1 h0))
  clear h0
  obtain ⟨W0, hW0⟩ : ∃ W0, W0 = ((w.alloc (.cells #[.string n, .string d] 24)).alloc (.cells #[.string m, .string e] 24)).alloc (.cells #[.string ⟨#[]⟩, .string ⟨#[]⟩] 24) := ⟨_, rfl⟩
  have hS : St2 w W0 24 24 n d m e := by rw [hW0]; exact St2.made hG _ _ _ _ _ _
  obtain ⟨c0, c1, c2, c3, c4, c5, c6, c7⟩ := hS.cells
  go_enter Tryz.func20, Tryz.ntmps20
  go_wp2_with fail
  rw [← hW0]
  clear hW0
  refine (fZero_any m _ (by omega)).mono ?_
  rintro _ _ ⟨rfl, rfl⟩
  rw [HD.out]
  go_wp2_with fail
  obtain ⟨k0, k1, _, _⟩ := (hS.r.put ⟨#[]⟩ ⟨#[]⟩).cells
  exact bodyPost_ret (v := .tuple #[.agg #[.string ⟨#[]⟩, .string ⟨#[]⟩], .int .i64 10]) (by simp [results, Tryz.results20, go_sem, k0, k1]) rfl ⟨rfl, below_put hS.below (by omega) _ _⟩

set_option maxRecDepth 100000 in
set_option maxHeartbeats 2000000 in
theorem fQuo_any (n d m e : ByteArray) (w : World) (hG : Ground w) (ha : n.size ≤ 100000) (hb : d.size ≤ 100000) (hc : m.size ≤ 100000) (hd : e.size ≤ 100000) (h0 : (raw m e).1 ≠ 0) :
    Calls Tryz.prog 20 #[.agg #[.string n, .string d], .agg #[.string m, .string e]] w fun r w' => r = .returned (.tuple #[.agg #[.string (cS (quoP (raw n d) (raw m e)).1), .string (cD (quoP (raw n d) (raw m e)).2)], .int .i64 0]) ∧ Below w.heap.size w w' := by
  have HD := Lib.hid (decide_eq_false (fun h => h0 (raw_zero_iff.2 h)))
  have H0 := Lib.hid h0
  have cx := CapP.of_raw (k := 100000) (by decide) ha hb
  have cy := CapP.of_raw (k := 100000) (by decide) hc hd
  have cr := CapP.of_rawP (by decide) cy.2 cy.1
  have HU := Lib.hid (show (cS ((raw n d).1 * (rawP (raw m e).2 (raw m e).1).1)).size ≤ 4294967294 from size_of (Cap.mul cx.1 cr.1) (by decide))
  have HV := Lib.hid (show (cS ((raw n d).2 * (rawP (raw m e).2 (raw m e).1).2)).size ≤ 4294967294 from size_of (Cap.mul cx.2 cr.2) (by decide))
  have HE := Lib.hid (quo_red (x1 := (raw n d).1) (y2 := (raw m e).2) (raw_pos n d) h0)
  have HP := Lib.hid (Int.mul_pos (raw_pos n d) (rawP_pos (raw m e).2 (raw m e).1))
  clear h0 cx cy cr
  obtain ⟨W0, hW0⟩ : ∃ W0, W0 = ((w.alloc (.cells #[.string n, .string d] 24)).alloc (.cells #[.string m, .string e] 24)).alloc (.cells #[.string ⟨#[]⟩, .string ⟨#[]⟩] 24) := ⟨_, rfl⟩
  have hS : St2 w W0 24 24 n d m e := by rw [hW0]; exact St2.made hG _ _ _ _ _ _
  obtain ⟨c0, c1, c2, c3, _, _, _, _⟩ := hS.cells
  go_enter Tryz.func20, Tryz.ntmps20
  go_wp2_with fail
  rw [← hW0]
  clear hW0
  refine (fZero_any m _ (by omega)).mono ?_
  rintro _ _ ⟨rfl, rfl⟩
  rw [HD.out]
  go_wp2_with fail
  refine (fApplyQuo_any n d m e W0 hS.g ha hb hc hd H0.out).mono ?_
  rintro _ w1 ⟨rfl, hB1⟩
  have hS1 := hS.next hB1
  clear hB1 c0 c1 c2 c3 hS
  go_wp2_with fail
  refine (show Calls _ _ _ w1 (FPost w1 (quoP (raw n d) (raw m e))) from by have := fCanonical_v w1 hS1.g HU.out HV.out (vS_cS _) (vS_cS _) HP.out; rwa [HE.out] at this).mono ?_
  rintro _ w2 ⟨rfl, hB2⟩
  have hS2 := hS1.next hB2
  clear hB2 hS1
  obtain ⟨_, _, _, _, c4, c5, c6, c7⟩ := hS2.cells
  go_wp2_with fail
  obtain ⟨k0, k1, _, _⟩ := (hS2.r.put (cS (quoP (raw n d) (raw m e)).1) (cD (quoP (raw n d) (raw m e)).2)).cells
  exact bodyPost_ret (v := .tuple #[.agg #[.string (cS (quoP (raw n d) (raw m e)).1), .string (cD (quoP (raw n d) (raw m e)).2)], .int .i64 0]) (by simp [results, Tryz.results20, go_sem, k0, k1]) rfl ⟨rfl, below_put hS2.below (by omega) _ _⟩

set_option maxRecDepth 100000 in
set_option maxHeartbeats 2000000 in
theorem fCompare_any (n d m e : ByteArray) (w : World) (hG : Ground w) (ha : n.size ≤ 100000) (hb : d.size ≤ 100000) (hc : m.size ≤ 100000) (hd : e.size ≤ 100000) :
    Calls Tryz.prog 16 #[.agg #[.string n, .string d], .agg #[.string m, .string e]] w fun r w' => r = .returned (.int .i64 (cmpS (raw n d) (raw m e))) ∧ Below w.heap.size w w' := by
  have cx := CapP.of_raw (k := 100000) (by decide) ha hb
  have cy := CapP.of_raw (k := 100000) (by decide) hc hd
  have HU := Lib.hid (show (cS ((raw n d).1 * (raw m e).2 + -(raw m e).1 * (raw n d).2)).size ≤ 4294967294 from size_of (Cap.add (Cap.mul cx.1 cy.2) (Cap.mul cy.1.neg cx.2)) (by decide))
  clear cx cy
  obtain ⟨W0, hW0⟩ : ∃ W0, W0 = (w.alloc (.cells #[.string n, .string d] 24)).alloc (.cells #[.string m, .string e] 24) := ⟨_, rfl⟩
  have hB0 : Below w.heap.size w W0 := by rw [hW0]; exact below_two _ _ _
  go_enter Tryz.func16, Tryz.ntmps16
  go_wp2_with fail
  rw [← hW0]
  clear hW0
  refine (fApplySub_any n d m e W0 (hG.below hB0) ha hb hc hd).mono ?_
  rintro _ w1 ⟨rfl, hB1⟩
  have hB := hB0.trans (hB1.mono hB0.size)
  clear hB1 hB0
  have hfd : ∀ (a b : ByteArray) (W : World), (Instr.field 46 (.agg #[.string a, .string b]) 0).run Tryz.prog W = .ok (.string a) W := fun _ _ _ => by kernel_rfl
  go_wp2_with fail
  refine (compare_v (y := 0) (z := cmpS (raw n d) (raw m e)) w1 (Nat.le_trans HU.out (by decide)) (by decide) (vS_cS _) vS_nil rfl).mono ?_
  rintro _ w2 ⟨rfl, hB2⟩
  have hB' := hB.trans (hB2.mono hB.size)
  clear hB2 hB
  go_wp2_with fail
  go_ret
  exact ⟨rfl, hB'⟩

set_option maxRecDepth 100000 in
set_option maxHeartbeats 2000000 in
theorem fFloor_any (n d : ByteArray) (w : World) (hG : Ground w) (ha : n.size ≤ 100000) (hb : d.size ≤ 100000) :
    Calls Tryz.prog 18 #[.agg #[.string n, .string d]] w (StrPost w (Int.fdiv (raw n d).1 (raw n d).2)) := by
  have HP := Lib.hid (raw_pos n d)
  obtain ⟨W0, hW0⟩ : ∃ W0, W0 = w.alloc (.cells #[.string n, .string d] 24) := ⟨_, rfl⟩
  have hB0 : Below w.heap.size w W0 := by rw [hW0]; exact (Below.refl _ _).alloc (Nat.le_refl _) _
  go_enter Tryz.func18, Tryz.ntmps18
  go_wp2_with fail
  rw [← hW0]
  clear hW0
  refine (fValue_any n d W0 100001 (by omega) (by omega) (by decide)).mono ?_
  rintro _ w1 ⟨p, q, rfl, e1, e2, e3, e4, hB1⟩
  have hB := hB0.trans (hB1.mono hB0.size)
  have HE1 := Lib.hid e1
  have HE2 := Lib.hid e2
  clear hB1 hB0 e1 e2
  go_wp2_with fail
  obtain ⟨W2, hW2⟩ : ∃ W2, W2 = w1.alloc (.cells #[.string p, .string q] 46) := ⟨_, rfl⟩
  have hB2 : Below w.heap.size w W2 := by rw [hW2]; exact hB.alloc hB.size _
  rw [← hW2]
  clear hW2 hB
  refine (div_v (q := Int.fdiv (raw n d).1 (raw n d).2) W2 (hG.below hB2) (by omega) (by omega) HE1.out HE2.out (by have := HP.out; omega) rfl rfl).mono ?_
  rintro _ w3 ⟨rfl, hB3⟩
  have hB' := hB2.trans (hB3.mono hB2.size)
  clear hB2 hB3
  go_wp2_with fail
  go_ret
  exact ⟨rfl, hB'⟩

set_option maxRecDepth 100000 in
set_option maxHeartbeats 2000000 in
theorem fParts_any (n d : ByteArray) (w : World) (hG : Ground w) (ha : n.size ≤ 100000) (hb : d.size ≤ 100000) :
    Calls Tryz.prog 8 #[.agg #[.string n, .string d]] w fun r w' => r = .returned (.tuple #[.string (cS (low (raw n d)).1), .string (cS (low (raw n d)).2)]) ∧ Below w.heap.size w w' := by
  have HP := Lib.hid (raw_pos n d)
  obtain ⟨W0, hW0⟩ : ∃ W0, W0 = w.alloc (.cells #[.string n, .string d] 24) := ⟨_, rfl⟩
  have hB0 : Below w.heap.size w W0 := by rw [hW0]; exact (Below.refl _ _).alloc (Nat.le_refl _) _
  go_enter Tryz.func8, Tryz.ntmps8
  go_wp2_with fail
  rw [← hW0]
  clear hW0
  refine (fValue_any n d W0 100001 (by omega) (by omega) (by decide)).mono ?_
  rintro _ w1 ⟨p, q, rfl, e1, e2, e3, e4, hB1⟩
  have hB := hB0.trans (hB1.mono hB0.size)
  have HE1 := Lib.hid e1
  have HE2 := Lib.hid e2
  clear hB1 hB0 e1 e2
  go_wp2_with fail
  refine (fLowest_v w1 (hG.below hB) (by omega) (by omega) HE1.out HE2.out HP.out).mono ?_
  rintro _ w2 ⟨rfl, hB2⟩
  have hB' := hB.trans (hB2.mono hB.size)
  clear hB hB2
  go_wp2_with fail
  go_region
  all_goals go_wp2_with fail
  all_goals go_ret2
  all_goals exact ⟨rfl, below_drewN (hB'.alloc hB'.size _) 1⟩

set_option maxRecDepth 100000 in
set_option maxHeartbeats 2000000 in
theorem fCheck_ok (n d : ByteArray) (w : World) (hG : Ground w) (ha : n.size ≤ 100000) (hb : d.size ≤ 100000) (hq : cS (low (raw n d)).1 = n ∧ cD (low (raw n d)).2 = d) :
    Calls Tryz.prog 12 #[.agg #[.string n, .string d]] w fun r w' => r = .returned (.int .i64 0) ∧ Below w.heap.size w w' := by
  have HP := Lib.hid (raw_pos n d)
  obtain ⟨W0, hW0⟩ : ∃ W0, W0 = w.alloc (.cells #[.string n, .string d] 24) := ⟨_, rfl⟩
  have hS : StX w W0 24 n d := by rw [hW0]; exact StX.made hG _ _ _
  go_enter Tryz.func12, Tryz.ntmps12
  go_wp2_with fail
  rw [← hW0]
  clear hW0
  obtain ⟨c0, c1, _, _⟩ := hS.x.cells
  have hg := frac_guard .neq (.tmp 5) (.tmp 6) (cS (red (raw n d).1 (raw n d).2).1) (cD (red (raw n d).1 (raw n d).2).2) n d
  have hq := frac_alike (a := cS (red (raw n d).1 (raw n d).2).1) (b := cD (red (raw n d).1 (raw n d).2).2) (c := n) (d := d) hq
  have HS := Lib.hid hS
  clear hS hG
  go_region_held3 (fun w' => w'.cell? ⟨w.heap.size, 0, none⟩ = some (.string n) ∧ w'.cell? ⟨w.heap.size, 1, none⟩ = some (.string d))
    (go_keep)
    (first
    | (go_at_call 38;
         (with_reducible refine Calls.mono (fValue_any n d _ 100001 (by omega) (by omega) (by decide)) ?_);
         (rintro e W1 ⟨p, q, rfl, e1, e2, e3, e4, hB1⟩);
         (have P1 := Lib.hid (And.intro (And.intro e1 e2) (And.intro e3 e4)));
         (have HS2 : StX w W1 _ n d := (by first | exact HS.out.next hB1 | exact HS.out.next1 hB1 | exact HS.out.nextD hB1));
         (replace HS := Lib.hid HS2);
         (clear hB1 HS2 e1 e2 e3 e4);
         (obtain ⟨c0, c1, _, _⟩ := HS.out.x.cells))
    | (go_at_call 42;
         (with_reducible refine Calls.mono (fCanonical_v (a := p) (b := q) _ (by first | exact HS.out.g | exact HS.out.drew.g | exact (HS.out.drewN _).g) (Nat.le_trans P1.out.2.1 (by decide)) (Nat.le_trans P1.out.2.2 (by decide)) P1.out.1.1 P1.out.1.2 HP.out) ?_);
         (rintro e W1 ⟨rfl, hB1⟩);
         (have HS2 : StX w W1 _ n d := (by first | exact HS.out.next hB1 | exact HS.out.next1 hB1 | exact HS.out.nextD hB1));
         (replace HS := Lib.hid HS2);
         (clear hB1 HS2);
         (obtain ⟨c0, c1, _, _⟩ := HS.out.x.cells)))
  all_goals go_wp2_with fail
  all_goals go_ret
  all_goals exact ⟨rfl, HS.out.below⟩

set_option maxRecDepth 100000 in
set_option maxHeartbeats 2000000 in
theorem fCheck_bad (n d : ByteArray) (w : World) (hG : Ground w) (ha : n.size ≤ 100000) (hb : d.size ≤ 100000) (hq : ¬ (cS (low (raw n d)).1 = n ∧ cD (low (raw n d)).2 = d)) :
    Calls Tryz.prog 12 #[.agg #[.string n, .string d]] w fun r w' => r = .returned (.int .i64 1) ∧ Below w.heap.size w w' := by
  have HP := Lib.hid (raw_pos n d)
  obtain ⟨W0, hW0⟩ : ∃ W0, W0 = w.alloc (.cells #[.string n, .string d] 24) := ⟨_, rfl⟩
  have hS : StX w W0 24 n d := by rw [hW0]; exact StX.made hG _ _ _
  go_enter Tryz.func12, Tryz.ntmps12
  go_wp2_with fail
  rw [← hW0]
  clear hW0
  obtain ⟨c0, c1, _, _⟩ := hS.x.cells
  have hg := frac_guard .neq (.tmp 5) (.tmp 6) (cS (red (raw n d).1 (raw n d).2).1) (cD (red (raw n d).1 (raw n d).2).2) n d
  have hq := frac_differ (a := cS (red (raw n d).1 (raw n d).2).1) (b := cD (red (raw n d).1 (raw n d).2).2) (c := n) (d := d) hq
  have HS := Lib.hid hS
  clear hS hG
  go_region_held3 (fun w' => w'.cell? ⟨w.heap.size, 0, none⟩ = some (.string n) ∧ w'.cell? ⟨w.heap.size, 1, none⟩ = some (.string d))
    (go_keep)
    (first
    | (go_at_call 38;
         (with_reducible refine Calls.mono (fValue_any n d _ 100001 (by omega) (by omega) (by decide)) ?_);
         (rintro e W1 ⟨p, q, rfl, e1, e2, e3, e4, hB1⟩);
         (have P1 := Lib.hid (And.intro (And.intro e1 e2) (And.intro e3 e4)));
         (have HS2 : StX w W1 _ n d := (by first | exact HS.out.next hB1 | exact HS.out.next1 hB1 | exact HS.out.nextD hB1));
         (replace HS := Lib.hid HS2);
         (clear hB1 HS2 e1 e2 e3 e4);
         (obtain ⟨c0, c1, _, _⟩ := HS.out.x.cells))
    | (go_at_call 42;
         (with_reducible refine Calls.mono (fCanonical_v (a := p) (b := q) _ (by first | exact HS.out.g | exact HS.out.drew.g | exact (HS.out.drewN _).g) (Nat.le_trans P1.out.2.1 (by decide)) (Nat.le_trans P1.out.2.2 (by decide)) P1.out.1.1 P1.out.1.2 HP.out) ?_);
         (rintro e W1 ⟨rfl, hB1⟩);
         (have HS2 : StX w W1 _ n d := (by first | exact HS.out.next hB1 | exact HS.out.next1 hB1 | exact HS.out.nextD hB1));
         (replace HS := Lib.hid HS2);
         (clear hB1 HS2);
         (obtain ⟨c0, c1, _, _⟩ := HS.out.x.cells)))
  all_goals go_wp2_with fail
  all_goals go_ret
  all_goals exact ⟨rfl, HS.out.below⟩

end Go.Proofs.YtldohkfomdcpoaaGreatDoor

/- The program's layer 2: text, Print, Power: the walks. -/
namespace Go.Proofs.YtldohkfomdcpoaaGreatDoor
open Go.RowKit Fra

/-- the text of a pair in lowest terms -/
def textP (p : Int × Int) : ByteArray := if p.2 = 1 then pS p.1 else pS p.1 ++ ⟨#[47]⟩ ++ pS p.2
theorem pS_size {k : Nat} {z : Int} (h : Cap k z) : (pS z).size ≤ k + 2 := by
  by_cases h0 : z = 0
  · rw [h0, pS_zero]; show 1 ≤ k + 2; omega
  · rw [pS_of_ne h0]; have := cS_size h; omega

set_option maxRecDepth 100000 in
set_option maxHeartbeats 2000000 in
theorem fText_any (p : Int × Int) (w : World) (hp : CapP 1000000 p) :
    Calls Tryz.prog 60 #[.agg #[.string (cS p.1), .string (cS p.2)]] w fun r w' => r = .returned (.string (textP p)) ∧ Below w.heap.size w w' := by
  have s1 := cS_size hp.1
  have s2 := cS_size hp.2
  have t1 := pS_size hp.1
  have t2 := pS_size hp.2
  obtain ⟨n, hn⟩ : ∃ n, n = cS p.1 := ⟨_, rfl⟩
  by_cases h0 : p.2 = 1
  · have HD := Lib.hid (show textP p = pS p.1 by unfold textP; rw [if_pos h0])
    rw [show cS p.2 = ⟨#[49]⟩ by rw [h0, cS_one], ← hn]
    rw [← hn] at s1
    have HN := Lib.hid (show vS n = p.1 by rw [hn, vS_cS])
    clear h0 hn s2 hp
    go_enter Tryz.func60, Tryz.ntmps60
    go_wp2_with fail
    refine (print_any n _ (by omega)).mono ?_
    rintro _ _ ⟨rfl, rfl⟩
    rw [HN.out]
    go_wp2_with fail
    go_ret
    exact ⟨by rw [HD.out]; rfl, (Below.refl _ _).alloc (Nat.le_refl _) _⟩
  · have HD := Lib.hid (show textP p = pS p.1 ++ ⟨#[47]⟩ ++ pS p.2 by unfold textP; rw [if_neg h0])
    have h1 : ((cS p.2).toList == [49]) = false := by rw [eq_one]; exact decide_eq_false h0
    obtain ⟨m, hm⟩ : ∃ m, m = cS p.2 := ⟨_, rfl⟩
    rw [← hm] at h1 s2
    rw [← hn] at s1
    rw [← hn, ← hm]
    have HN := Lib.hid (show vS n = p.1 by rw [hn, vS_cS])
    have HM := Lib.hid (show vS m = p.2 by rw [hm, vS_cS])
    obtain ⟨u, hu⟩ : ∃ u, u = pS p.1 := ⟨_, rfl⟩
    obtain ⟨v, hv⟩ : ∃ v, v = pS p.2 := ⟨_, rfl⟩
    rw [← hu] at t1
    rw [← hv] at t2
    have HU := Lib.hid hu
    have HV := Lib.hid hv
    clear h0 hn hm hp hu hv
    obtain ⟨W0, hW0⟩ : ∃ W0, W0 = w.alloc (.cells #[.string n, .string m] 46) := ⟨_, rfl⟩
    have hB0 : Below w.heap.size w W0 := by rw [hW0]; exact (Below.refl _ _).alloc (Nat.le_refl _) _
    have hP : PairAt W0 w.heap.size 46 n m := by rw [hW0]; exact PairAt.made _ _ _ _
    go_enter Tryz.func60, Tryz.ntmps60
    go_wp2_with fail
    rw [← hW0]
    clear hW0
    obtain ⟨c0, c1, _, _⟩ := hP.cells
    have b1 : ¬ 9223372036854775807 < u.size + 1 := by omega
    have b2 : ¬ 9223372036854775807 < u.size + 1 + v.size := by omega
    go_region_held3 (fun w' => w'.cell? ⟨w.heap.size, 0, none⟩ = some (.string n) ∧ w'.cell? ⟨w.heap.size, 1, none⟩ = some (.string m))
      (go_keep)
      ((go_at_call 90;
        (first
          | ((with_reducible refine Calls.mono (print_any n _ (by omega)) ?_); (rintro _ _ ⟨rfl, rfl⟩); (rw [HN.out, ← HU.out]))
          | ((with_reducible refine Calls.mono (print_any m _ (by omega)) ?_); (rintro _ _ ⟨rfl, rfl⟩); (rw [HM.out, ← HV.out])))))
    all_goals go_wp2_with fail
    all_goals go_ret
    all_goals exact ⟨by rw [HD.out, ← HU.out, ← HV.out]; rfl, below_drewN hB0 1⟩

set_option maxRecDepth 100000 in
set_option maxHeartbeats 2000000 in
theorem fPrint_any (n d : ByteArray) (w : World) (hG : Ground w) (ha : n.size ≤ 100000) (hb : d.size ≤ 100000) :
    Calls Tryz.prog 35 #[.agg #[.string n, .string d]] w fun r w' => r = .returned (.string (textP (low (raw n d)))) ∧ Below w.heap.size w w' := by
  have HP := Lib.hid (raw_pos n d)
  have HC := Lib.hid (CapP.low (CapP.of_raw (k := 100000) (by decide) ha hb) (raw_pos n d))
  obtain ⟨W0, hW0⟩ : ∃ W0, W0 = w.alloc (.cells #[.string n, .string d] 24) := ⟨_, rfl⟩
  have hB0 : Below w.heap.size w W0 := by rw [hW0]; exact (Below.refl _ _).alloc (Nat.le_refl _) _
  go_enter Tryz.func35, Tryz.ntmps35
  go_wp2_with fail
  rw [← hW0]
  clear hW0
  refine (fValue_any n d W0 100001 (by omega) (by omega) (by decide)).mono ?_
  rintro _ w1 ⟨p, q, rfl, e1, e2, e3, e4, hB1⟩
  have hB := hB0.trans (hB1.mono hB0.size)
  have HE1 := Lib.hid e1
  have HE2 := Lib.hid e2
  clear hB1 hB0 e1 e2
  go_wp2_with fail
  refine (fLowest_v w1 (hG.below hB) (by omega) (by omega) HE1.out HE2.out HP.out).mono ?_
  rintro _ w2 ⟨rfl, hB2⟩
  have hB' := hB.trans (hB2.mono hB.size)
  clear hB hB2
  go_wp2_with fail
  refine (fText_any (low (raw n d)) w2 (CapP.mono HC.out (by decide))).mono ?_
  rintro _ w3 ⟨rfl, hB3⟩
  have hB := hB'.trans (hB3.mono hB'.size)
  clear hB' hB3
  go_wp2_with fail
  go_ret
  exact ⟨rfl, hB⟩

/-! ### Powers -/
theorem pow_gcd {a b : Int} (h : Int.gcd a b = 1) (n : Nat) : Int.gcd (a ^ n) (b ^ n) = 1 := by
  unfold Int.gcd at *
  rw [Int.natAbs_pow, Int.natAbs_pow]
  exact Nat.Coprime.pow n n h
theorem Low.pow {p : Int × Int} (h : Low p) (n : Nat) : Low (p.1 ^ n, p.2 ^ n) := ⟨Int.pow_pos h.1, pow_gcd h.2 n⟩
/-- the value of a power: of the number p, in lowest terms -/
def powP (p : Int × Int) (e : Int) : Int × Int := redS (powU p.1 p.2 e).1 (powU p.1 p.2 e).2
theorem powP_nat {p : Int × Int} (h : Low p) (n : Nat) : powP p n = (p.1 ^ n, p.2 ^ n) := by
  unfold powP powU
  rw [if_pos (by omega)]
  show redS (p.1 ^ (n : Int).toNat) (p.2 ^ (n : Int).toNat) = _
  rw [Int.toNat_natCast, redS_red (Int.pow_pos h.1)]
  exact red_lowest (pow_gcd h.2 n)
theorem quoP_one {y : Int × Int} : quoP (1, 1) y = redS y.2 y.1 := by unfold quoP; rw [Int.one_mul, Int.one_mul]
theorem powP_neg {p y : Int × Int} (hy : 0 < y.2) (hs : Same p y) (h0 : p.1 ≠ 0) (n : Nat) : powP p (-(n : Int)) = ((quoP (1, 1) y).1 ^ n, (quoP (1, 1) y).2 ^ n) := by
  have hy0 : y.1 ≠ 0 := by
    intro e
    unfold Same at hs
    rw [e, Int.zero_mul] at hs
    rcases Int.mul_eq_zero.1 hs with h | h
    · exact h0 h
    · omega
  have hq : quoP (1, 1) y = redS p.2 p.1 := by
    rw [quoP_one]
    refine redS_eq hy0 h0 ?_
    unfold Same at hs
    rw [Int.mul_comm y.2, hs, Int.mul_comm]
  have hl : Low (quoP (1, 1) y) := by rw [quoP_one]; exact Low.of_redS hy0
  rw [← powP_nat hl n]
  unfold powP
  rw [hq]
  have hc := redS_cross (n := p.2) (d := p.1)
  have hpos := redS_pos (n := p.2) h0
  generalize redS p.2 p.1 = q at *
  by_cases hn : n = 0
  · subst hn; unfold powU; simp
  unfold powU
  rw [if_neg (by omega), if_pos (by omega)]
  simp only [Int.neg_neg, Int.toNat_natCast]
  refine redS_eq (pow_ne h0 n) (pow_ne (by omega) n) ?_
  rw [← Int.mul_pow, ← Int.mul_pow, ← hc]

theorem PairAt.set0 {W : World} {b : Nat} {t : TypeId} {x y : ByteArray} (h : PairAt W b t x y) (u : ByteArray) : PairAt (W.setCell ⟨b, 0, none⟩ (.string u)) b t u y := by
  have h1 := heap_setCell_same W b 0 _ _ (.string u) h
  unfold PairAt; rw [h1]; rfl
theorem PairAt.set1 {W : World} {b : Nat} {t : TypeId} {x y : ByteArray} (h : PairAt W b t x y) (u : ByteArray) : PairAt (W.setCell ⟨b, 1, none⟩ (.string u)) b t x u := by
  have h1 := heap_setCell_same W b 1 _ _ (.string u) h
  unfold PairAt; rw [h1]; rfl
theorem PairAt.setOther {W : World} {b : Nat} {t : TypeId} {x y : ByteArray} (h : PairAt W b t x y) {a : Addr} (hne : b ≠ a.block) (u : Value) : PairAt (W.setCell a u) b t x y := by
  unfold PairAt at *; rw [Below.heap_setCell W a u b hne]; exact h

theorem St1.setB {w W : World} {s t : TypeId} {a b : ByteArray} (h : St1 w W s t a b) (hG : Ground w) {B o : Nat} (hB : w.heap.size + 2 ≤ B) (v : Value) : St1 w (W.setCell ⟨B, o, none⟩ v) s t a b :=
  have hb := h.below.setCell (p := ⟨B, o, none⟩) (show w.heap.size ≤ B by omega) v
  ⟨hG.below hb, h.x.setOther (a := ⟨B, o, none⟩) (show w.heap.size ≠ B by omega) v, h.r.setOther (a := ⟨B, o, none⟩) (show w.heap.size + 1 ≠ B by omega) v, hb⟩

set_option maxRecDepth 100000 in
set_option maxHeartbeats 4000000 in
theorem fPower_pos (n d : ByteArray) (k : Nat) (w : World) (hG : Ground w) (ha : n.size ≤ 100000) (hb : d.size ≤ 100000) (hk : k ≤ 400) :
    Calls Tryz.prog 31 #[.agg #[.string n, .string d], .int .i64 k] w fun r w' => r = .returned (.tuple #[.agg #[.string (cS ((low (raw n d)).1 ^ k)), .string (cD ((low (raw n d)).2 ^ k))], .int .i64 0]) ∧ Below w.heap.size w w' := by
  have HP := Lib.hid (raw_pos n d)
  have hc := CapP.low (CapP.of_raw (k := 100000) (by decide) ha hb) (raw_pos n d)
  have HC1 := Lib.hid (show (cS (low (raw n d)).1).size ≤ 1000000 by have := cS_size hc.1; omega)
  have HC2 := Lib.hid (show (cS (low (raw n d)).2).size ≤ 1000000 by have := cS_size hc.2; omega)
  clear hc
  have hk0 : ¬ (k : Int) < 0 := by omega
  have hk1 : ¬ (k : Int) < -400 := by omega
  have hk2 : ¬ (400 : Int) < (k : Int) := by omega
  obtain ⟨W0, hW0⟩ : ∃ W0, W0 = (w.alloc (.cells #[.string n, .string d] 24)).alloc (.cells #[.string ⟨#[]⟩, .string ⟨#[]⟩] 24) := ⟨_, rfl⟩
  have hS : St1 w W0 24 24 n d := by rw [hW0]; exact St1.made hG _ _ _ _
  go_enter Tryz.func31, Tryz.ntmps31
  go_upto_region 1 with fail
  rw [← hW0]
  clear hW0
  obtain ⟨c0, c1, _, _⟩ := hS.x.cells
  go_wp2_with fail
  refine (fValue_any n d W0 100001 (by omega) (by omega) (by decide)).mono ?_
  rintro _ w1 ⟨p, q, rfl, e1, e2, e3, e4, hB1⟩
  have hS1 := hS.next hB1
  have HE1 := Lib.hid e1
  have HE2 := Lib.hid e2
  clear hB1 hS e1 e2 c0 c1
  go_wp2_with fail
  refine (fLowest_v w1 hS1.g (by omega) (by omega) HE1.out HE2.out HP.out).mono ?_
  rintro _ w2 ⟨rfl, hB2⟩
  have hS2 := hS1.next hB2
  clear hB2 hS1
  go_wp2_with fail
  obtain ⟨B, hB8⟩ : ∃ B, B = w2.heap.size := ⟨_, rfl⟩
  obtain ⟨W3, hW3⟩ : ∃ W3, W3 = w2.alloc (.cells #[.string (cS (red (raw n d).1 (raw n d).2).1), .string (cS (red (raw n d).1 (raw n d).2).2)] 46) := ⟨_, rfl⟩
  have hB3 : Below w2.heap.size w2 W3 := by rw [hW3]; exact (Below.refl _ _).alloc (Nat.le_refl _) _
  have hR3 : PairAt W3 B 46 (cS (low (raw n d)).1) (cS (low (raw n d)).2) := by rw [hW3, hB8]; exact PairAt.made _ _ _ _
  have hge : w.heap.size + 2 ≤ B := by rw [hB8]; have := hS2.r.lt; omega
  rw [← hB8, ← hW3]
  clear hW3 hB8
  have hS3 := hS2.next hB3
  clear hB3 hS2
  refine (show Calls _ _ _ W3 (PowPost W3 ((low (raw n d)).1 ^ k)) from by have := power_any (cS (low (raw n d)).1) k W3 hS3.g HC1.out hk; rwa [vS_cS] at this).mono ?_
  rintro _ w4 ⟨rfl, hB4⟩
  have hR4 := hR3.below hB4
  have hS4 := hS3.next hB4
  clear hB4 hS3 hR3
  obtain ⟨d0, d1, d2, d3⟩ := hR4.cells
  have h5 := hR4.set0 (cS ((low (raw n d)).1 ^ k))
  have hS5 := hS4.setB hG (o := 0) hge (.string (cS ((low (raw n d)).1 ^ k)))
  obtain ⟨e0, e1, e2, e3⟩ := h5.cells
  go_wp2_with fail
  obtain ⟨W5, hW5⟩ : ∃ W5, W5 = w4.setCell ⟨B, 0, none⟩ (.string (cS ((low (raw n d)).1 ^ k))) := ⟨_, rfl⟩
  rw [← hW5] at h5 hS5
  rw [← hW5]
  clear hW5 hS4 hR4 d0 d1 d2 d3 e0 e1 e2 e3
  refine (show Calls _ _ _ W5 (PowPost W5 ((low (raw n d)).2 ^ k)) from by have := power_any (cS (low (raw n d)).2) k W5 hS5.g HC2.out hk; rwa [vS_cS] at this).mono ?_
  rintro _ w6 ⟨rfl, hB6⟩
  have hR6 := h5.below hB6
  have hS6 := hS5.next hB6
  clear hB6 hS5 h5
  obtain ⟨d0, d1, d2, d3⟩ := hR6.cells
  have h7 := hR6.set1 (cS ((low (raw n d)).2 ^ k))
  have hS7 := hS6.setB hG (o := 1) hge (.string (cS ((low (raw n d)).2 ^ k)))
  obtain ⟨e0, e1, e2, e3⟩ := h7.cells
  go_wp2_with fail
  obtain ⟨W7, hW7⟩ : ∃ W7, W7 = w6.setCell ⟨B, 1, none⟩ (.string (cS ((low (raw n d)).2 ^ k))) := ⟨_, rfl⟩
  rw [← hW7] at h7 hS7
  rw [← hW7]
  clear hW7 hS6 hR6 d0 d1 d2 d3 e0 e1 e2 e3
  refine (fPack_any ((low (raw n d)).1 ^ k, (low (raw n d)).2 ^ k) W7).mono ?_
  rintro _ w8 ⟨rfl, hB8⟩
  have hS8 := hS7.next hB8
  clear hB8 hS7 h7
  obtain ⟨c4, c5, c6, c7⟩ := hS8.r.cells
  go_wp2_with fail
  obtain ⟨k0, k1, _, _⟩ := (hS8.r.put (cS ((low (raw n d)).1 ^ k)) (cD ((low (raw n d)).2 ^ k))).cells
  exact bodyPost_ret (v := .tuple #[.agg #[.string (cS ((low (raw n d)).1 ^ k)), .string (cD ((low (raw n d)).2 ^ k))], .int .i64 0]) (by simp [results, Tryz.results31, go_sem, k0, k1]) rfl ⟨rfl, below_put hS8.below (by omega) _ _⟩

set_option maxRecDepth 100000 in
set_option maxHeartbeats 2000000 in
theorem fPower_range (n d : ByteArray) (k : Int) (w : World) (hk : k < -400 ∨ 400 < k) :
    Calls Tryz.prog 31 #[.agg #[.string n, .string d], .int .i64 k] w fun r w' => r = .returned (.tuple #[.agg #[.string ⟨#[]⟩, .string ⟨#[]⟩], .int .i64 2]) ∧ Below w.heap.size w w' := by
  by_cases h : k < -400
  · clear hk
    go_enter Tryz.func31, Tryz.ntmps31
    go_wp2_with fail
    exact bodyPost_ret (v := .tuple #[.agg #[.string ⟨#[]⟩, .string ⟨#[]⟩], .int .i64 2]) (by simp [results, Tryz.results31, go_sem]) rfl ⟨rfl, below_two _ _ _⟩
  · have h2 : 400 < k := by omega
    clear hk
    go_enter Tryz.func31, Tryz.ntmps31
    go_wp2_with fail
    exact bodyPost_ret (v := .tuple #[.agg #[.string ⟨#[]⟩, .string ⟨#[]⟩], .int .i64 2]) (by simp [results, Tryz.results31, go_sem]) rfl ⟨rfl, below_two _ _ _⟩

end Go.Proofs.YtldohkfomdcpoaaGreatDoor

/- The program's layer 2: Power with a negative exponent: the walk. -/
namespace Go.Proofs.YtldohkfomdcpoaaGreatDoor
open Go.RowKit Fra

theorem St1.drewN {w W : World} {s t : TypeId} {a b : ByteArray} (h : St1 w W s t a b) (q : Nat) : St1 w (W.drewN q) s t a b := ⟨⟨h.g.tab, h.g.max⟩, h.x, h.r, below_drewN h.below q⟩
theorem St1.drew {w W : World} {s t : TypeId} {a b : ByteArray} (h : St1 w W s t a b) : St1 w W.drew s t a b := h.drewN 1
theorem St1.next1 {w W W1 : World} {s t : TypeId} {a b : ByteArray} (h : St1 w W s t a b) (hb : Below W.drew.heap.size W.drew W1) : St1 w W1 s t a b := h.drew.next hb
theorem St1.nextD {w W W1 : World} {q : Nat} {s t : TypeId} {a b : ByteArray} (h : St1 w W s t a b) (hb : Below (W.drewN q).heap.size (W.drewN q) W1) : St1 w W1 s t a b := (h.drewN q).next hb
theorem St1.alloc {w W : World} {s t : TypeId} {a b : ByteArray} (h : St1 w W s t a b) (o : Obj) : St1 w (W.alloc o) s t a b := h.next ((Below.refl _ _).alloc (Nat.le_refl _) _)
theorem St1.nextA {w W W1 : World} {s t : TypeId} {a b u v : ByteArray} {r : TypeId} (h : St1 w W s t a b) (hb : Below (W.alloc (.cells #[.string u, .string v] r)).heap.size (W.alloc (.cells #[.string u, .string v] r)) W1) :
    St1 w W1 s t a b ∧ PairAt W1 W.heap.size r u v := ⟨(h.alloc _).next hb, (PairAt.made W r u v).below hb⟩
theorem St1.nextDA {w W W1 : World} {s t : TypeId} {a b u v : ByteArray} {r : TypeId} (h : St1 w W s t a b) (hb : Below (W.drew.alloc (.cells #[.string u, .string v] r)).heap.size (W.drew.alloc (.cells #[.string u, .string v] r)) W1) :
    St1 w W1 s t a b ∧ PairAt W1 W.heap.size r u v := ⟨(h.drew.alloc _).next hb, (PairAt.made W.drew r u v).below hb⟩
theorem St1.nextAD {w W W1 : World} {s t : TypeId} {a b u v : ByteArray} {r : TypeId} (h : St1 w W s t a b) (hb : Below ((W.alloc (.cells #[.string u, .string v] r)).drew).heap.size ((W.alloc (.cells #[.string u, .string v] r)).drew) W1) :
    St1 w W1 s t a b ∧ PairAt W1 W.heap.size r u v := ⟨(h.alloc _).drew.next hb, (show PairAt ((W.alloc (.cells #[.string u, .string v] r)).drew) W.heap.size r u v from PairAt.made W r u v).below hb⟩
theorem St1.room {w W : World} {s t : TypeId} {a b : ByteArray} (h : St1 w W s t a b) : w.heap.size + 2 ≤ W.heap.size := by have := h.r.lt; omega
theorem raw_one_lit : raw ⟨#[49]⟩ ⟨#[]⟩ = (1, 1) := by decide +kernel
theorem fOf_one (w : World) (hG : Ground w) :
    Calls Tryz.prog 14 #[.string ⟨#[49]⟩] w fun e w' => e = .returned (.agg #[.string ⟨#[49]⟩, .string ⟨#[]⟩]) ∧ Below w.heap.size w w' := by
  have := fOf_any ⟨#[49]⟩ w hG (by decide)
  rwa [vS_one, cS_one] at this

theorem fQuo_one {q : Int × Int} (n d : ByteArray) (w : World) (hG : Ground w) (ha : n.size ≤ 100000) (hb : d.size ≤ 100000) (h0 : (raw n d).1 ≠ 0) (hq : q = quoP (1, 1) (raw n d)) :
    Calls Tryz.prog 20 #[.agg #[.string ⟨#[49]⟩, .string ⟨#[]⟩], .agg #[.string n, .string d]] w fun r w' => r = .returned (.tuple #[.agg #[.string (cS q.1), .string (cD q.2)], .int .i64 0]) ∧ Below w.heap.size w w' := by
  have := fQuo_any ⟨#[49]⟩ ⟨#[]⟩ n d w hG (by decide) (by decide) ha hb h0
  rwa [raw_one_lit, ← hq] at this

theorem fPower_q {q : Int × Int} {n d : ByteArray} {w V : World} {k : Nat} (hS : St1 w V 24 24 n d) (h1 : (cS q.1).size ≤ 100000) (h2 : (cD q.2).size ≤ 100000) (hr : raw (cS q.1) (cD q.2) = q) (hl : low q = q) (hk : k ≤ 400) :
    Calls Tryz.prog 31 #[.agg #[.string (cS q.1), .string (cD q.2)], .int .i64 k] V fun r w' => r = .returned (.tuple #[.agg #[.string (cS (q.1 ^ k)), .string (cD (q.2 ^ k))], .int .i64 0]) ∧ St1 w w' 24 24 n d := by
  have := fPower_pos (cS q.1) (cD q.2) k V hS.g h1 h2 hk
  rw [hr, hl] at this
  refine this.mono ?_
  rintro _ w' ⟨rfl, hB⟩
  exact ⟨rfl, hS.next hB⟩

set_option maxRecDepth 100000 in
set_option maxHeartbeats 4000000 in
theorem fPower_neg (n d : ByteArray) (k : Nat) (w : World) (hG : Ground w) (ha : n.size ≤ 99998) (hb : d.size ≤ 99998) (hk1 : 1 ≤ k) (hk : k ≤ 400) (h0 : (raw n d).1 ≠ 0) :
    Calls Tryz.prog 31 #[.agg #[.string n, .string d], .int .i64 (-(k : Int))] w fun r w' => r = .returned (.tuple #[.agg #[.string (cS ((quoP (1, 1) (raw n d)).1 ^ k)), .string (cD ((quoP (1, 1) (raw n d)).2 ^ k))], .int .i64 0]) ∧ Below w.heap.size w w' := by
  obtain ⟨m, hm⟩ : ∃ m, m = -(k : Int) := ⟨_, rfl⟩
  have HM := Lib.hid (show -m = (k : Int) by omega)
  have hm0 : m < 0 := by omega
  have hm1 : ¬ m < -400 := by omega
  have hm2 : ¬ 400 < m := by omega
  have hw : IntKind.i64.wrap (-m) = -m := IntWalk.i64_in _ (by omega)
  rw [← hm]
  clear hm hk1
  have hcx := CapP.of_raw (k := 99998) (by decide) ha hb
  obtain ⟨q, hq⟩ : ∃ q, q = quoP (1, 1) (raw n d) := ⟨_, rfl⟩
  have hql : Low q := by rw [hq, quoP_one]; exact Low.of_redS h0
  have hqc : CapP 99998 q := by rw [hq, quoP_one]; exact CapP.redS hcx.2 hcx.1 h0
  have HS1 := Lib.hid (show (cS q.1).size ≤ 100000 by have := cS_size hqc.1; omega)
  have HS2 := Lib.hid (show (cD q.2).size ≤ 100000 by have := cD_size hqc.2; omega)
  have HR := Lib.hid (show raw (cS q.1) (cD q.2) = q from raw_can hql.1)
  have HL := Lib.hid hql.eq
  have HQ := Lib.hid hq
  have H0 := Lib.hid h0
  rw [← hq]
  clear hq hql hqc hcx h0
  obtain ⟨W0, hW0⟩ : ∃ W0, W0 = (w.alloc (.cells #[.string n, .string d] 24)).alloc (.cells #[.string ⟨#[]⟩, .string ⟨#[]⟩] 24) := ⟨_, rfl⟩
  have hS : St1 w W0 24 24 n d := by rw [hW0]; exact St1.made hG _ _ _ _
  go_enter Tryz.func31, Tryz.ntmps31
  go_upto_region 1 with fail
  rw [← hW0]
  clear hW0
  obtain ⟨c0, c1, _, _⟩ := hS.x.cells
  have hne0 : W0.heap.size ≠ w.heap.size := World.new_ne W0 _ c0
  have hg0 := Lib.hid (show w.heap.size + 2 ≤ W0.heap.size from St1.room hS)
  have HS := Lib.hid hS
  clear hS
  go_wp2_with fail
  go_region_held3 (fun w' => w'.cell? ⟨w.heap.size, 0, none⟩ = some (.string n) ∧ w'.cell? ⟨w.heap.size, 1, none⟩ = some (.string d))
    (go_keep)
    (first
    | (go_at_call 14;
         (with_reducible refine Calls.mono (fOf_one _ (by first | exact HS.out.g | exact HS.out.drew.g | exact (HS.out.drewN _).g | exact (HS.out.alloc _).g | exact (HS.out.drew.alloc _).g | exact (HS.out.alloc _).drew.g)) ?_);
         (rintro e WA ⟨rfl, hB1⟩);
         (first
           | ((have HS2 : St1 w WA _ _ n d := (by first | exact HS.out.next hB1 | exact HS.out.next1 hB1)); (replace HS := Lib.hid HS2); (clear HS2))
           | ((have HS2 : St1 w WA _ _ n d ∧ PairAt WA W0.heap.size 24 ⟨#[]⟩ ⟨#[]⟩ := (by first | exact HS.out.nextA hB1 | exact HS.out.nextDA hB1 | exact HS.out.nextAD hB1)); (have hnew := HS2.2); (obtain ⟨n0, n1, n2, n3⟩ := hnew.cells); (replace HS := Lib.hid HS2.1); (clear HS2)));
         (clear hB1);
         (obtain ⟨c0, c1, _, _⟩ := HS.out.x.cells);
         (have hne0 : WA.heap.size ≠ w.heap.size := World.new_ne WA _ c0);
         (have hgA := Lib.hid (show w.heap.size + 2 ≤ WA.heap.size from St1.room HS.out)))
    | (go_at_call 20;
         (with_reducible refine Calls.mono (fQuo_one n d _ (by first | exact HS.out.g | exact HS.out.drew.g | exact (HS.out.drewN _).g | exact (HS.out.alloc _).g | exact (HS.out.drew.alloc _).g | exact (HS.out.alloc _).drew.g) (Nat.le_trans ha (by decide)) (Nat.le_trans hb (by decide)) H0.out HQ.out) ?_);
         (rintro e WB ⟨rfl, hB1⟩);
         (first
           | ((have hnew2 : PairAt WB W0.heap.size 24 ⟨#[]⟩ ⟨#[]⟩ := (by exact hnew.below hB1)); (have HS2 : St1 w WB _ _ n d := (by exact HS.out.next hB1)); (replace hnew := hnew2); (obtain ⟨n0, n1, n2, n3⟩ := hnew.cells); (replace HS := Lib.hid HS2); (clear HS2 hnew2))
           | ((have HS2 : St1 w WB _ _ n d := (by first | exact HS.out.next hB1 | exact HS.out.next1 hB1)); (replace HS := Lib.hid HS2); (clear HS2))
           | ((have HS2 : St1 w WB _ _ n d ∧ PairAt WB WA.heap.size 24 ⟨#[]⟩ ⟨#[]⟩ := (by first | exact HS.out.nextA hB1 | exact HS.out.nextDA hB1 | exact HS.out.nextAD hB1)); (have hnew := HS2.2); (obtain ⟨n0, n1, n2, n3⟩ := hnew.cells); (replace HS := Lib.hid HS2.1); (clear HS2)));
         (clear hB1);
         (obtain ⟨c0, c1, _, _⟩ := HS.out.x.cells);
         (have hne0 : WB.heap.size ≠ w.heap.size := World.new_ne WB _ c0)))
  all_goals go_wp2_with fail
  all_goals rw [HM.out]
  all_goals refine Calls.mono (fPower_q (by first | exact HS.out.alloc _ | exact (HS.out.setB hG hgA.out _).setB hG hgA.out _ | exact (HS.out.setB hG hg0.out _).setB hG hg0.out _) HS1.out HS2.out HR.out HL.out hk) ?_
  all_goals rintro _ w5 ⟨rfl, hS5⟩
  all_goals obtain ⟨c4, c5, c6, c7⟩ := hS5.r.cells
  all_goals go_wp2_with fail
  all_goals obtain ⟨k0, k1, _, _⟩ := (hS5.r.put (cS (q.1 ^ k)) (cD (q.2 ^ k))).cells
  all_goals exact bodyPost_ret (v := .tuple #[.agg #[.string (cS (q.1 ^ k)), .string (cD (q.2 ^ k))], .int .i64 0]) (by simp [results, Tryz.results31, go_sem, k0, k1]) rfl ⟨rfl, below_put hS5.below (by omega) _ _⟩

set_option maxRecDepth 100000 in
set_option maxHeartbeats 4000000 in
theorem fPower_neg_zero (n d : ByteArray) (k : Nat) (w : World) (hG : Ground w) (ha : n.size ≤ 99998) (hk1 : 1 ≤ k) (hk : k ≤ 400) (h0 : (raw n d).1 = 0) :
    Calls Tryz.prog 31 #[.agg #[.string n, .string d], .int .i64 (-(k : Int))] w fun r w' => r = .returned (.tuple #[.agg #[.string ⟨#[]⟩, .string ⟨#[]⟩], .int .i64 10]) ∧ Below w.heap.size w w' := by
  obtain ⟨m, hm⟩ : ∃ m, m = -(k : Int) := ⟨_, rfl⟩
  have HM := Lib.hid (show -m = (k : Int) by omega)
  have hm0 : m < 0 := by omega
  have hm1 : ¬ m < -400 := by omega
  have hm2 : ¬ 400 < m := by omega
  have hw : IntKind.i64.wrap (-m) = -m := IntWalk.i64_in _ (by omega)
  rw [← hm]
  clear hm hk1
  have H0 := Lib.hid h0
  clear h0
  obtain ⟨W0, hW0⟩ : ∃ W0, W0 = (w.alloc (.cells #[.string n, .string d] 24)).alloc (.cells #[.string ⟨#[]⟩, .string ⟨#[]⟩] 24) := ⟨_, rfl⟩
  have hS : St1 w W0 24 24 n d := by rw [hW0]; exact St1.made hG _ _ _ _
  go_enter Tryz.func31, Tryz.ntmps31
  go_upto_region 1 with fail
  rw [← hW0]
  clear hW0
  obtain ⟨c0, c1, _, _⟩ := hS.x.cells
  have hne0 : W0.heap.size ≠ w.heap.size := World.new_ne W0 _ c0
  have hg0 := Lib.hid (show w.heap.size + 2 ≤ W0.heap.size from St1.room hS)
  have HS := Lib.hid hS
  clear hS
  go_wp2_with fail
  go_region_held3 (fun w' => w'.cell? ⟨w.heap.size, 0, none⟩ = some (.string n) ∧ w'.cell? ⟨w.heap.size, 1, none⟩ = some (.string d))
    (go_keep)
    (first
    | (go_at_call 14;
         (with_reducible refine Calls.mono (fOf_one _ (by first | exact HS.out.g | exact HS.out.drew.g | exact (HS.out.drewN _).g | exact (HS.out.alloc _).g | exact (HS.out.drew.alloc _).g | exact (HS.out.alloc _).drew.g)) ?_);
         (rintro e WA ⟨rfl, hB1⟩);
         (first
           | ((have HS2 : St1 w WA _ _ n d := (by first | exact HS.out.next hB1 | exact HS.out.next1 hB1)); (replace HS := Lib.hid HS2); (clear HS2))
           | ((have HS2 : St1 w WA _ _ n d ∧ PairAt WA W0.heap.size 24 ⟨#[]⟩ ⟨#[]⟩ := (by first | exact HS.out.nextA hB1 | exact HS.out.nextDA hB1 | exact HS.out.nextAD hB1)); (have hnew := HS2.2); (obtain ⟨n0, n1, n2, n3⟩ := hnew.cells); (replace HS := Lib.hid HS2.1); (clear HS2)));
         (clear hB1);
         (obtain ⟨c0, c1, _, _⟩ := HS.out.x.cells);
         (have hne0 : WA.heap.size ≠ w.heap.size := World.new_ne WA _ c0);
         (have hgA := Lib.hid (show w.heap.size + 2 ≤ WA.heap.size from St1.room HS.out)))
    | (go_at_call 20;
         (with_reducible refine Calls.mono (fQuo_zero ⟨#[49]⟩ ⟨#[]⟩ n d _ (by first | exact HS.out.g | exact HS.out.drew.g | exact (HS.out.drewN _).g | exact (HS.out.alloc _).g | exact (HS.out.drew.alloc _).g | exact (HS.out.alloc _).drew.g) (Nat.le_trans ha (by decide)) H0.out) ?_);
         (rintro e WB ⟨rfl, hB1⟩);
         (first
           | ((have hnew2 : PairAt WB W0.heap.size 24 ⟨#[]⟩ ⟨#[]⟩ := (by exact hnew.below hB1)); (have HS2 : St1 w WB _ _ n d := (by exact HS.out.next hB1)); (replace hnew := hnew2); (obtain ⟨n0, n1, n2, n3⟩ := hnew.cells); (replace HS := Lib.hid HS2); (clear HS2 hnew2))
           | ((have HS2 : St1 w WB _ _ n d := (by first | exact HS.out.next hB1 | exact HS.out.next1 hB1)); (replace HS := Lib.hid HS2); (clear HS2))
           | ((have HS2 : St1 w WB _ _ n d ∧ PairAt WB WA.heap.size 24 ⟨#[]⟩ ⟨#[]⟩ := (by first | exact HS.out.nextA hB1 | exact HS.out.nextDA hB1 | exact HS.out.nextAD hB1)); (have hnew := HS2.2); (obtain ⟨n0, n1, n2, n3⟩ := hnew.cells); (replace HS := Lib.hid HS2.1); (clear HS2)));
         (clear hB1);
         (obtain ⟨c0, c1, _, _⟩ := HS.out.x.cells);
         (have hne0 : WB.heap.size ≠ w.heap.size := World.new_ne WB _ c0)))
  all_goals have hV1 := HS.out.alloc (.cells #[.string ⟨#[]⟩, .string ⟨#[]⟩] 24)
  all_goals have hV2 := (HS.out.setB hG (o := 0) hgA.out (.string ⟨#[]⟩)).setB hG (o := 1) hgA.out (.string ⟨#[]⟩)
  all_goals have hV3 := (HS.out.setB hG (o := 0) hg0.out (.string ⟨#[]⟩)).setB hG (o := 1) hg0.out (.string ⟨#[]⟩)
  all_goals obtain ⟨p0, p1, p2, p3⟩ := hV1.r.cells
  all_goals obtain ⟨q0, q1, q2, q3⟩ := hV2.r.cells
  all_goals obtain ⟨r0, r1, r2, r3⟩ := hV3.r.cells
  all_goals go_wp2_with fail
  all_goals obtain ⟨k0, k1, _, _⟩ := (hV1.r.put ⟨#[]⟩ ⟨#[]⟩).cells
  all_goals obtain ⟨l0, l1, _, _⟩ := (hV2.r.put ⟨#[]⟩ ⟨#[]⟩).cells
  all_goals obtain ⟨m0, m1, _, _⟩ := (hV3.r.put ⟨#[]⟩ ⟨#[]⟩).cells
  all_goals first
    | exact bodyPost_ret (v := .tuple #[.agg #[.string ⟨#[]⟩, .string ⟨#[]⟩], .int .i64 10]) (by simp [results, Tryz.results31, go_sem, k0, k1]) rfl ⟨rfl, below_put hV1.below (by omega) _ _⟩
    | exact bodyPost_ret (v := .tuple #[.agg #[.string ⟨#[]⟩, .string ⟨#[]⟩], .int .i64 10]) (by simp [results, Tryz.results31, go_sem, l0, l1]) rfl ⟨rfl, below_put hV2.below (by omega) _ _⟩
    | exact bodyPost_ret (v := .tuple #[.agg #[.string ⟨#[]⟩, .string ⟨#[]⟩], .int .i64 10]) (by simp [results, Tryz.results31, go_sem, m0, m1]) rfl ⟨rfl, below_put hV3.below (by omega) _ _⟩

end Go.Proofs.YtldohkfomdcpoaaGreatDoor

/- The program's layer 2: Parse: the walk, by the contract of strings.Cut. -/
namespace Go.Proofs.YtldohkfomdcpoaaGreatDoor
open Go.RowKit Fra

/-! ### Where the first slash stands -/
def slash (l : List UInt8) : Nat := (l.takeWhile (· != 47)).length
theorem slash_le (l : List UInt8) : slash l ≤ l.length := (List.takeWhile_sublist _).length_le
theorem index_slash : ∀ l : List UInt8, Lib.index l [47] = if slash l < l.length then (slash l : Int) else -1
  | [] => by simp [Lib.index, slash]
  | b :: l => by
    have ih := index_slash l
    by_cases h : b = 47
    · subst h; simp [Lib.index, slash, List.isPrefixOf]
    · have e : slash (b :: l) = slash l + 1 := by simp [slash, h]
      have hp : List.isPrefixOf [47] (b :: l) = false := by simp [List.isPrefixOf]; exact fun e => h e.symm
      rw [Lib.index, hp, ih, e]
      by_cases h2 : slash l < l.length
      · have : ¬ ((slash l : Int) == -1) = true := by simp
        simp [h2, this]
      · simp [h2]
theorem cut_slash (l : List UInt8) : (Lib.cut l [47]).1 = l.take (slash l) ∧ (Lib.cut l [47]).2.1 = l.drop (slash l + 1) := by
  unfold Lib.cut
  rw [index_slash]
  by_cases h : slash l < l.length
  · rw [if_pos h, if_pos (by omega)]; simp
  · have hl : slash l = l.length := by have := slash_le l; omega
    rw [if_neg h, if_neg (by omega), hl]; simp
theorem slash_none : ∀ {l : List UInt8}, (∀ b ∈ l, b ≠ 47) → slash l = l.length
  | [], _ => rfl
  | b :: l, h => by
    have hb : b ≠ 47 := h b (by simp)
    have ih := slash_none (l := l) (fun c hc => h c (by simp [hc]))
    have e : slash (b :: l) = slash l + 1 := by simp [slash, hb]
    rw [e, ih]; rfl
theorem slash_app {l r : List UInt8} (h : ∀ b ∈ l, b ≠ 47) : slash (l ++ 47 :: r) = l.length := by
  unfold slash
  rw [List.takeWhile_append_of_pos (fun b hb => by simpa using h b hb)]
  simp
theorem itoa_slash (z : Int) : ∀ b ∈ Lib.itoa z, b ≠ 47 := by
  have hd : ∀ n : Nat, ∀ b ∈ Lib.decDigits n, b ≠ 47 := fun n b hb => by
    have := List.all_eq_true.1 (Num.all_decDigits n) b hb
    have := (Num.isDig_iff b).1 this
    intro e; subst e; revert this; decide
  intro b hb
  unfold Lib.itoa at hb
  split at hb
  · rcases List.mem_cons.1 hb with h | h
    · subst h; decide
    · exact hd _ b h
  · exact hd _ b hb

/-- the text ahead of the slash, and behind it -/
def numS (s : ByteArray) : ByteArray := ⟨(s.data.toList.take (slash s.data.toList)).toArray⟩
def denS (s : ByteArray) : ByteArray := ⟨(s.data.toList.drop (slash s.data.toList + 1)).toArray⟩
theorem numS_size (s : ByteArray) : (numS s).size ≤ s.size := by
  rw [← size_toList (numS s)]; unfold numS; simp; omega
theorem denS_size (s : ByteArray) : (denS s).size ≤ s.size := by
  rw [← size_toList (denS s)]; unfold denS; simp
theorem textP_list (p : Int × Int) : (textP p).data.toList = if p.2 = 1 then Lib.itoa p.1 else Lib.itoa p.1 ++ 47 :: Lib.itoa p.2 := by
  unfold textP
  split
  · rfl
  · simp [pS, ByteArray.data_append]
theorem numS_text (p : Int × Int) : numS (textP p) = pS p.1 := by
  unfold numS
  rw [textP_list]
  split
  · rw [slash_none (itoa_slash _), List.take_length]; rfl
  · rw [slash_app (itoa_slash _), List.take_left]; rfl
theorem denS_text (p : Int × Int) : denS (textP p) = if p.2 = 1 then ⟨#[]⟩ else pS p.2 := by
  unfold denS
  rw [textP_list]
  by_cases h : p.2 = 1
  · rw [if_pos h, if_pos h, slash_none (itoa_slash _), List.drop_eq_nil_of_le (by omega)]
  · rw [if_neg h, if_neg h, slash_app (itoa_slash _), ← List.drop_drop, List.drop_left]; rfl
/-- the number that a text would have -/
def parseV (s : ByteArray) : Int × Int := low (raw (numS s) (denS s))
theorem parseV_low (s : ByteArray) : Low (parseV s) := Low.of_low (raw_pos _ _)
theorem raw_text {p : Int × Int} (h : Low p) : raw (numS (textP p)) (denS (textP p)) = p := by
  rw [numS_text, denS_text]
  unfold raw
  by_cases h1 : p.2 = 1
  · rw [if_pos h1, vS_pS, vS_nil, rawP_zero]; exact Prod.ext rfl h1.symm
  · rw [if_neg h1, vS_pS, vS_pS, rawP_of_pos h.1]
theorem parseV_text {p : Int × Int} (h : Low p) : parseV (textP p) = p := by
  unfold parseV; rw [raw_text h, h.eq]

theorem fCut_any (s : ByteArray) (w : World) (hG : Ground w) (hs : s.size ≤ 65536) :
    Calls Tryz.prog 59 #[.string s, .string ⟨#[47]⟩] w fun e w' => ∃ b n, e = .returned (.tuple #[.string (numS s), .string (denS s), .bool b]) ∧ w' = w.drewN n := by
  obtain ⟨m, hm⟩ := hG.max
  refine (Tryz.strings_Cut s ⟨#[47]⟩ m w (by omega) hm).mono ?_
  rintro _ _ ⟨rfl, n, rfl⟩
  refine ⟨(Lib.cut s.data.toList [47]).2.2, n, ?_, rfl⟩
  unfold numS denS
  rw [← (cut_slash s.data.toList).1, ← (cut_slash s.data.toList).2]

set_option maxHeartbeats 1000000 in
theorem fParse_long (s : ByteArray) (w : World) (hs : 65536 < s.size) :
    Calls Tryz.prog 33 #[.string s] w fun r w' => r = .returned (.tuple #[.agg #[.string ⟨#[]⟩, .string ⟨#[]⟩], .int .i64 4]) ∧ Below w.heap.size w w' := by
  go_enter Tryz.func33, Tryz.ntmps33
  go_wp2_with fail
  exact bodyPost_ret (v := .tuple #[.agg #[.string ⟨#[]⟩, .string ⟨#[]⟩], .int .i64 4]) (by simp [results, Tryz.results33, go_sem]) rfl ⟨rfl, (Below.refl _ _).alloc (Nat.le_refl _) _⟩

set_option maxRecDepth 100000 in
set_option maxHeartbeats 4000000 in
theorem fParse_ok (s : ByteArray) (w : World) (hG : Ground w) (hs : s.size ≤ 65536) (hgood : textP (parseV s) = s) :
    Calls Tryz.prog 33 #[.string s] w fun r w' => r = .returned (.tuple #[.agg #[.string (cS (parseV s).1), .string (cD (parseV s).2)], .int .i64 0]) ∧ Below w.heap.size w w' := by
  have HG := Lib.hid hgood
  clear hgood
  have n1 := numS_size s
  have d1 := denS_size s
  have HP := Lib.hid (raw_pos (numS s) (denS s))
  have HC := Lib.hid (CapP.mono (CapP.low (CapP.of_raw (k := 65536) (n := numS s) (d := denS s) (by decide) (by omega) (by omega)) (raw_pos _ _)) (show 65536 ≤ 1000000 by decide))
  obtain ⟨W0, hW0⟩ : ∃ W0, W0 = w.alloc (.cells #[.string ⟨#[]⟩, .string ⟨#[]⟩] 24) := ⟨_, rfl⟩
  have hB0 : Below w.heap.size w W0 := by rw [hW0]; exact (Below.refl _ _).alloc (Nat.le_refl _) _
  have hR : PairAt W0 w.heap.size 24 ⟨#[]⟩ ⟨#[]⟩ := by rw [hW0]; exact PairAt.made _ _ _ _
  go_enter Tryz.func33, Tryz.ntmps33
  go_wp2_with fail
  rw [← hW0]
  clear hW0
  refine (fCut_any s W0 (hG.below hB0) hs).mono ?_
  rintro _ _ ⟨b, q, rfl, rfl⟩
  obtain ⟨W1, hW1⟩ : ∃ W1, W1 = W0.drewN q := ⟨_, rfl⟩
  have hB1 : Below w.heap.size w W1 := by rw [hW1]; exact below_drewN hB0 q
  have hR1 : PairAt W1 w.heap.size 24 ⟨#[]⟩ ⟨#[]⟩ := by rw [hW1]; exact hR
  rw [← hW1]
  clear hW1 hB0 hR
  go_wp2_with fail
  refine (fValue_any (numS s) (denS s) W1 65537 (by omega) (by omega) (by decide)).mono ?_
  rintro _ w2 ⟨x, y, rfl, e1, e2, e3, e4, hB⟩
  have hR2 := hR1.below hB
  have hB2 := hB1.trans (hB.mono hB1.size)
  have HE1 := Lib.hid e1
  have HE2 := Lib.hid e2
  clear hB hB1 hR1 e1 e2
  go_wp2_with fail
  refine (show Calls _ _ _ w2 (fun e w' => e = .returned (.agg #[.string (cS (parseV s).1), .string (cS (parseV s).2)]) ∧ Below w2.heap.size w2 w') from fLowest_v w2 (hG.below hB2) (by omega) (by omega) HE1.out HE2.out HP.out).mono ?_
  rintro _ w3 ⟨rfl, hB⟩
  have hR3 := hR2.below hB
  have hB3 := hB2.trans (hB.mono hB2.size)
  clear hB hB2 hR2
  go_wp2_with fail
  obtain ⟨B, hB8⟩ : ∃ B, B = w3.heap.size := ⟨_, rfl⟩
  obtain ⟨W4, hW4⟩ : ∃ W4, W4 = w3.alloc (.cells #[.string (cS (parseV s).1), .string (cS (parseV s).2)] 46) := ⟨_, rfl⟩
  have hBx : Below w3.heap.size w3 W4 := by rw [hW4]; exact (Below.refl _ _).alloc (Nat.le_refl _) _
  have hX4 : PairAt W4 B 46 (cS (parseV s).1) (cS (parseV s).2) := by rw [hW4, hB8]; exact PairAt.made _ _ _ _
  have hR4 := hR3.below hBx
  have hB4 := hB3.trans (hBx.mono hB3.size)
  rw [← hB8, ← hW4]
  clear hW4 hB8 hBx hB3 hR3
  refine (fText_any (parseV s) W4 HC.out).mono ?_
  rintro _ w5 ⟨rfl, hB⟩
  have hX5 := hX4.below hB
  have hR5 := hR4.below hB
  have hB5 := hB4.trans (hB.mono hB4.size)
  clear hB hB4 hR4 hX4
  obtain ⟨c0, c1, _, _⟩ := hX5.cells
  obtain ⟨r0, r1, r2, r3⟩ := hR5.cells
  rw [HG.out]
  go_wp2_with fail
  refine (fPack_any (parseV s) w5).mono ?_
  rintro _ w6 ⟨rfl, hB⟩
  have hR6 := hR5.below hB
  have hB6 := hB5.trans (hB.mono hB5.size)
  clear hB hB5 hR5 c0 c1 r0 r1 r2 r3 hX5
  obtain ⟨r0, r1, r2, r3⟩ := hR6.cells
  go_wp2_with fail
  obtain ⟨k0, k1, _, _⟩ := (hR6.put (cS (parseV s).1) (cD (parseV s).2)).cells
  exact bodyPost_ret (v := .tuple #[.agg #[.string (cS (parseV s).1), .string (cD (parseV s).2)], .int .i64 0]) (by simp [results, Tryz.results33, go_sem, k0, k1]) rfl ⟨rfl, below_put hB6 (Nat.le_refl _) _ _⟩

set_option maxRecDepth 100000 in
set_option maxHeartbeats 4000000 in
theorem fParse_bad (s : ByteArray) (w : World) (hG : Ground w) (hs : s.size ≤ 65536) (hgood : textP (parseV s) ≠ s) :
    Calls Tryz.prog 33 #[.string s] w fun r w' => r = .returned (.tuple #[.agg #[.string ⟨#[]⟩, .string ⟨#[]⟩], .int .i64 3]) ∧ Below w.heap.size w w' := by
  have HG := Lib.hid hgood
  clear hgood
  have n1 := numS_size s
  have d1 := denS_size s
  have HP := Lib.hid (raw_pos (numS s) (denS s))
  have HC := Lib.hid (CapP.mono (CapP.low (CapP.of_raw (k := 65536) (n := numS s) (d := denS s) (by decide) (by omega) (by omega)) (raw_pos _ _)) (show 65536 ≤ 1000000 by decide))
  obtain ⟨W0, hW0⟩ : ∃ W0, W0 = w.alloc (.cells #[.string ⟨#[]⟩, .string ⟨#[]⟩] 24) := ⟨_, rfl⟩
  have hB0 : Below w.heap.size w W0 := by rw [hW0]; exact (Below.refl _ _).alloc (Nat.le_refl _) _
  have hR : PairAt W0 w.heap.size 24 ⟨#[]⟩ ⟨#[]⟩ := by rw [hW0]; exact PairAt.made _ _ _ _
  go_enter Tryz.func33, Tryz.ntmps33
  go_wp2_with fail
  rw [← hW0]
  clear hW0
  refine (fCut_any s W0 (hG.below hB0) hs).mono ?_
  rintro _ _ ⟨b, q, rfl, rfl⟩
  obtain ⟨W1, hW1⟩ : ∃ W1, W1 = W0.drewN q := ⟨_, rfl⟩
  have hB1 : Below w.heap.size w W1 := by rw [hW1]; exact below_drewN hB0 q
  have hR1 : PairAt W1 w.heap.size 24 ⟨#[]⟩ ⟨#[]⟩ := by rw [hW1]; exact hR
  rw [← hW1]
  clear hW1 hB0 hR
  go_wp2_with fail
  refine (fValue_any (numS s) (denS s) W1 65537 (by omega) (by omega) (by decide)).mono ?_
  rintro _ w2 ⟨x, y, rfl, e1, e2, e3, e4, hB⟩
  have hR2 := hR1.below hB
  have hB2 := hB1.trans (hB.mono hB1.size)
  have HE1 := Lib.hid e1
  have HE2 := Lib.hid e2
  clear hB hB1 hR1 e1 e2
  go_wp2_with fail
  refine (show Calls _ _ _ w2 (fun e w' => e = .returned (.agg #[.string (cS (parseV s).1), .string (cS (parseV s).2)]) ∧ Below w2.heap.size w2 w') from fLowest_v w2 (hG.below hB2) (by omega) (by omega) HE1.out HE2.out HP.out).mono ?_
  rintro _ w3 ⟨rfl, hB⟩
  have hR3 := hR2.below hB
  have hB3 := hB2.trans (hB.mono hB2.size)
  clear hB hB2 hR2
  go_wp2_with fail
  obtain ⟨B, hB8⟩ : ∃ B, B = w3.heap.size := ⟨_, rfl⟩
  obtain ⟨W4, hW4⟩ : ∃ W4, W4 = w3.alloc (.cells #[.string (cS (parseV s).1), .string (cS (parseV s).2)] 46) := ⟨_, rfl⟩
  have hBx : Below w3.heap.size w3 W4 := by rw [hW4]; exact (Below.refl _ _).alloc (Nat.le_refl _) _
  have hX4 : PairAt W4 B 46 (cS (parseV s).1) (cS (parseV s).2) := by rw [hW4, hB8]; exact PairAt.made _ _ _ _
  have hR4 := hR3.below hBx
  have hB4 := hB3.trans (hBx.mono hB3.size)
  rw [← hB8, ← hW4]
  clear hW4 hB8 hBx hB3 hR3
  refine (fText_any (parseV s) W4 HC.out).mono ?_
  rintro _ w5 ⟨rfl, hB⟩
  have hX5 := hX4.below hB
  have hR5 := hR4.below hB
  have hB5 := hB4.trans (hB.mono hB4.size)
  clear hB hB4 hR4 hX4
  obtain ⟨c0, c1, _, _⟩ := hX5.cells
  obtain ⟨r0, r1, r2, r3⟩ := hR5.cells
  obtain ⟨t, ht⟩ : ∃ t, t = textP (parseV s) := ⟨_, rfl⟩
  have hne : (t.toList == s.toList) = false := by rw [ht]; exact eq_str _ _ HG.out
  rw [← ht]
  clear ht
  go_wp2_with fail
  obtain ⟨k0, k1, _, _⟩ := (hR5.put ⟨#[]⟩ ⟨#[]⟩).cells
  exact bodyPost_ret (v := .tuple #[.agg #[.string ⟨#[]⟩, .string ⟨#[]⟩], .int .i64 3]) (by simp [results, Tryz.results33, go_sem, k0, k1]) rfl ⟨rfl, below_put hB5 (Nat.le_refl _) _ _⟩

end Go.Proofs.YtldohkfomdcpoaaGreatDoor
