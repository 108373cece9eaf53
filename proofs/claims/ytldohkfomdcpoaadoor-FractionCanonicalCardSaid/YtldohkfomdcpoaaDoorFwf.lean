/- The program's layer 2: Neg, Of, New, Quo, Compare: the walks. -/
import Derived.Test.YtldohkfomdcpoaaDoorFwe
namespace Go.Proofs.YtldohkfomdcpoaaDoor
open Go.RowKit Fra

/-- a box, and the variable of a result, behind some calls -/
structure St1 (w W : World) (s t : TypeId) (a b : ByteArray) : Prop where
  g : Ground W
  x : PairAt W w.heap.size s a b
  r : PairAt W (w.heap.size + 1) t ⟨#[]⟩ ⟨#[]⟩
  below : Below w.heap.size w W
theorem St1.next {w W W1 : World} {s t : TypeId} {a b : ByteArray} (h : St1 w W s t a b) (hb : Below W.heap.size W W1) : St1 w W1 s t a b :=
  ⟨h.g.below hb, h.x.below hb, h.r.below hb, h.below.trans (hb.mono h.below.size)⟩
theorem St1.made {w : World} (hG : Ground w) (s t : TypeId) (a b : ByteArray) : St1 w ((w.alloc (.cells #[.string a, .string b] s)).alloc (.cells #[.string ⟨#[]⟩, .string ⟨#[]⟩] t)) s t a b :=
  ⟨hG.below (below_two _ _ _), (Box1.made w s t a b).x, (Box1.made w s t a b).r, below_two _ _ _⟩

theorem raw_nil : raw ⟨#[]⟩ ⟨#[]⟩ = (0, 1) := by decide +kernel
theorem raw_zero_iff {m e : ByteArray} : (raw m e).1 = 0 ↔ vS m = 0 := by
  unfold raw rawP
  split
  · exact Iff.rfl
  · split
    · show -vS m = 0 ↔ _; omega
    · exact Iff.rfl
theorem red_one (x : Int) : red x 1 = (x, 1) := red_lowest (by simp)
theorem new_red {n y : Int} (h : y ≠ 0) : red (n * (rawP 1 y).1) (rawP 1 y).2 = redS n y := by
  unfold rawP redS
  rw [if_neg h]
  split
  · show red (n * -1) (-y) = _; rw [Int.mul_neg, Int.mul_one]
  · show red (n * 1) y = _; rw [Int.mul_one]
theorem quo_red {x1 x2 y1 y2 : Int} (hx : 0 < x2) (h : y1 ≠ 0) : red (x1 * (rawP y2 y1).1) (x2 * (rawP y2 y1).2) = quoP (x1, x2) (y1, y2) := by
  unfold rawP quoP redS
  rw [if_neg h]
  split
  · rename_i hl
    have : x2 * y1 < 0 := Int.mul_neg_of_pos_of_neg hx hl
    show red (x1 * -y2) (x2 * -y1) = if x2 * y1 < 0 then red (-(x1 * y2)) (-(x2 * y1)) else red (x1 * y2) (x2 * y1)
    rw [if_pos this, Int.mul_neg, Int.mul_neg]
  · have : 0 < x2 * y1 := Int.mul_pos hx (by omega)
    show red (x1 * y2) (x2 * y1) = if x2 * y1 < 0 then red (-(x1 * y2)) (-(x2 * y1)) else red (x1 * y2) (x2 * y1)
    rw [if_neg (by omega)]
theorem CapP.of_rawP {k : Nat} {n d : Int} (hk : 1 ≤ k) (c1 : Cap k n) (c2 : Cap k d) : CapP k (rawP n d) := by
  unfold rawP
  split
  · exact ⟨c1, Cap.one hk⟩
  · split
    · exact ⟨c1.neg, c2.neg⟩
    · exact ⟨c1, c2⟩

set_option maxRecDepth 100000 in
set_option maxHeartbeats 2000000 in
theorem fNeg_any (n d : ByteArray) (w : World) (hG : Ground w) (ha : n.size ≤ 100000) (hb : d.size ≤ 100000) :
    Calls Tryd.prog 14 #[.agg #[.string n, .string d]] w (FPost w (negP (raw n d))) := by
  obtain ⟨W0, hW0⟩ : ∃ W0, W0 = (w.alloc (.cells #[.string n, .string d] 24)).alloc (.cells #[.string ⟨#[]⟩, .string ⟨#[]⟩] 24) := ⟨_, rfl⟩
  have hS : St1 w W0 24 24 n d := by rw [hW0]; exact St1.made hG _ _ _ _
  obtain ⟨c0, c1, _, _⟩ := hS.x.cells
  go_enter Tryd.func14, Tryd.ntmps14
  go_wp2_with fail
  rw [← hW0]
  clear hW0
  refine (show Calls _ _ _ W0 (FPost W0 (negP (raw n d))) from by have := fSub_any ⟨#[]⟩ ⟨#[]⟩ n d W0 hS.g (by decide) (by decide) ha hb; rwa [raw_nil, subP_zero] at this).mono ?_
  rintro _ w1 ⟨rfl, hB1⟩
  have hS1 := hS.next hB1
  clear hB1 c0 c1 hS
  obtain ⟨c4, c5, c6, c7⟩ := hS1.r.cells
  go_wp2_with fail
  obtain ⟨k0, k1, _, _⟩ := (hS1.r.put (cS (negP (raw n d)).1) (cD (negP (raw n d)).2)).cells
  exact bodyPost_ret (v := .agg #[.string (cS (negP (raw n d)).1), .string (cD (negP (raw n d)).2)]) (by simp [results, Tryd.results14, go_sem, k0, k1]) rfl ⟨rfl, below_put hS1.below (by omega) _ _⟩

set_option maxRecDepth 100000 in
set_option maxHeartbeats 2000000 in
theorem fOf_any (a : ByteArray) (w : World) (hG : Ground w) (ha : a.size ≤ 100000) :
    Calls Tryd.prog 18 #[.string a] w fun e w' => e = .returned (.agg #[.string (cS (vS a)), .string ⟨#[]⟩]) ∧ Below w.heap.size w w' := by
  obtain ⟨W0, hW0⟩ : ∃ W0, W0 = w.alloc (.cells #[.string ⟨#[]⟩, .string ⟨#[]⟩] 24) := ⟨_, rfl⟩
  have hB0 : Below w.heap.size w W0 := by rw [hW0]; exact (Below.refl _ _).alloc (Nat.le_refl _) _
  have hP : PairAt W0 w.heap.size 24 ⟨#[]⟩ ⟨#[]⟩ := by rw [hW0]; exact PairAt.made _ _ _ _
  go_enter Tryd.func18, Tryd.ntmps18
  go_wp2_with fail
  rw [← hW0]
  clear hW0
  refine (fWhole_any a W0).mono ?_
  rintro _ w1 ⟨rfl, hB1⟩
  have hP1 := hP.below hB1
  have hB := hB0.trans (hB1.mono hB0.size)
  clear hB1 hB0 hP
  go_wp2_with fail
  refine (show Calls _ _ _ w1 (fun e w' => e = .returned (.agg #[.string (cS (vS a)), .string ⟨#[]⟩]) ∧ Below w1.heap.size w1 w') from by have := fCanonical_v (x := vS a) (y := 1) w1 (hG.below hB) (show a.size ≤ 4294967294 by omega) (show (ByteArray.mk #[49]).size ≤ 4294967294 by decide) rfl vS_one (by decide); rw [red_one] at this; exact this).mono ?_
  rintro _ w2 ⟨rfl, hB2⟩
  have hP2 := hP1.below hB2
  have hB' := hB.trans (hB2.mono hB.size)
  clear hB2 hB hP1
  obtain ⟨c4, c5, c6, c7⟩ := hP2.cells
  go_wp2_with fail
  obtain ⟨k0, k1, _, _⟩ := (hP2.put (cS (vS a)) ⟨#[]⟩).cells
  exact bodyPost_ret (v := .agg #[.string (cS (vS a)), .string ⟨#[]⟩]) (by simp [results, Tryd.results18, go_sem, k0, k1]) rfl ⟨rfl, below_put hB' (Nat.le_refl _) _ _⟩

set_option maxRecDepth 100000 in
set_option maxHeartbeats 2000000 in
theorem fNew_zero (n d : ByteArray) (w : World) (hd : d.size ≤ 100000) (h0 : vS d = 0) :
    Calls Tryd.prog 22 #[.string n, .string d] w fun e w' => e = .returned (.tuple #[.agg #[.string ⟨#[]⟩, .string ⟨#[]⟩], .int .i64 10]) ∧ Below w.heap.size w w' := by
  have HD := Lib.hid (decide_eq_true h0)
  clear h0
  obtain ⟨W0, hW0⟩ : ∃ W0, W0 = w.alloc (.cells #[.string ⟨#[]⟩, .string ⟨#[]⟩] 24) := ⟨_, rfl⟩
  have hB0 : Below w.heap.size w W0 := by rw [hW0]; exact (Below.refl _ _).alloc (Nat.le_refl _) _
  have hP : PairAt W0 w.heap.size 24 ⟨#[]⟩ ⟨#[]⟩ := by rw [hW0]; exact PairAt.made _ _ _ _
  go_enter Tryd.func22, Tryd.ntmps22
  go_wp2_with fail
  rw [← hW0]
  clear hW0
  refine (fZero_any d _ (by omega)).mono ?_
  rintro _ _ ⟨rfl, rfl⟩
  rw [HD.out]
  obtain ⟨c4, c5, c6, c7⟩ := hP.cells
  go_wp2_with fail
  obtain ⟨k0, k1, _, _⟩ := (hP.put ⟨#[]⟩ ⟨#[]⟩).cells
  exact bodyPost_ret (v := .tuple #[.agg #[.string ⟨#[]⟩, .string ⟨#[]⟩], .int .i64 10]) (by simp [results, Tryd.results22, go_sem, k0, k1]) rfl ⟨rfl, below_put hB0 (Nat.le_refl _) _ _⟩

set_option maxRecDepth 100000 in
set_option maxHeartbeats 2000000 in
theorem fNew_any (n d : ByteArray) (w : World) (hG : Ground w) (hn : n.size ≤ 100000) (hd : d.size ≤ 100000) (h0 : vS d ≠ 0) :
    Calls Tryd.prog 22 #[.string n, .string d] w fun e w' => e = .returned (.tuple #[.agg #[.string (cS (redS (vS n) (vS d)).1), .string (cD (redS (vS n) (vS d)).2)], .int .i64 0]) ∧ Below w.heap.size w w' := by
  have HD := Lib.hid (decide_eq_false h0)
  have H0 := Lib.hid h0
  have cr := CapP.of_rawP (k := 100000) (n := 1) (by decide) (Cap.one (by decide)) (Cap.of hd rfl)
  have HU := Lib.hid (show (cS (vS n * (rawP 1 (vS d)).1)).size ≤ 4294967294 from size_of (Cap.mul (Cap.of hn rfl) cr.1) (by decide))
  have HV := Lib.hid (show (cS (rawP 1 (vS d)).2).size ≤ 4294967294 from size_of cr.2 (by decide))
  have HE := Lib.hid (new_red (n := vS n) h0)
  clear h0 cr
  obtain ⟨W0, hW0⟩ : ∃ W0, W0 = w.alloc (.cells #[.string ⟨#[]⟩, .string ⟨#[]⟩] 24) := ⟨_, rfl⟩
  have hB0 : Below w.heap.size w W0 := by rw [hW0]; exact (Below.refl _ _).alloc (Nat.le_refl _) _
  have hP : PairAt W0 w.heap.size 24 ⟨#[]⟩ ⟨#[]⟩ := by rw [hW0]; exact PairAt.made _ _ _ _
  go_enter Tryd.func22, Tryd.ntmps22
  go_wp2_with fail
  rw [← hW0]
  clear hW0
  refine (fZero_any d _ (by omega)).mono ?_
  rintro _ _ ⟨rfl, rfl⟩
  rw [HD.out]
  go_wp2_with fail
  refine (fApplyInt_any n d W0 (hG.below hB0) hn hd H0.out).mono ?_
  rintro _ w1 ⟨rfl, hB1⟩
  have hP1 := hP.below hB1
  have hB := hB0.trans (hB1.mono hB0.size)
  clear hB1 hB0 hP
  go_wp2_with fail
  refine (show Calls _ _ _ w1 (FPost w1 (redS (vS n) (vS d))) from by have := fCanonical_v w1 (hG.below hB) HU.out HV.out (vS_cS _) (vS_cS _) (rawP_pos _ _); rwa [HE.out] at this).mono ?_
  rintro _ w2 ⟨rfl, hB2⟩
  have hP2 := hP1.below hB2
  have hB' := hB.trans (hB2.mono hB.size)
  clear hB2 hB hP1
  obtain ⟨c4, c5, c6, c7⟩ := hP2.cells
  go_wp2_with fail
  obtain ⟨k0, k1, _, _⟩ := (hP2.put (cS (redS (vS n) (vS d)).1) (cD (redS (vS n) (vS d)).2)).cells
  exact bodyPost_ret (v := .tuple #[.agg #[.string (cS (redS (vS n) (vS d)).1), .string (cD (redS (vS n) (vS d)).2)], .int .i64 0]) (by simp [results, Tryd.results22, go_sem, k0, k1]) rfl ⟨rfl, below_put hB' (Nat.le_refl _) _ _⟩

end Go.Proofs.YtldohkfomdcpoaaDoor
