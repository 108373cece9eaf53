/- The program's layer 2: Power with a negative exponent: the walk. -/
import Derived.Test.YtldohkfomdcpoaaDoorFwh
namespace Go.Proofs.YtldohkfomdcpoaaDoor
open Go.RowKit Fra

theorem St1.drewN {w W : World} {s t : TypeId} {a b : ByteArray} (h : St1 w W s t a b) (q : Nat) : St1 w (W.drewN q) s t a b := ⟨⟨h.g.tab, h.g.max⟩, h.x, h.r, below_drewN h.below q⟩
theorem St1.drew {w W : World} {s t : TypeId} {a b : ByteArray} (h : St1 w W s t a b) : St1 w W.drew s t a b := h.drewN 1
theorem St1.next1 {w W W1 : World} {s t : TypeId} {a b : ByteArray} (h : St1 w W s t a b) (hb : Below W.drew.heap.size W.drew W1) : St1 w W1 s t a b := h.drew.next hb
theorem St1.nextD {w W W1 : World} {q : Nat} {s t : TypeId} {a b : ByteArray} (h : St1 w W s t a b) (hb : Below (W.drewN q).heap.size (W.drewN q) W1) : St1 w W1 s t a b := (h.drewN q).next hb
theorem St1.alloc {w W : World} {s t : TypeId} {a b : ByteArray} (h : St1 w W s t a b) (o : Obj) : St1 w (W.alloc o) s t a b := h.next ((Below.refl _ _).alloc (Nat.le_refl _) _)
theorem St1.nextA {w W W1 : World} {s t : TypeId} {a b u v : ByteArray} {r : TypeId} (h : St1 w W s t a b) (hb : Below (W.alloc (.cells #[.string u, .string v] r)).heap.size (W.alloc (.cells #[.string u, .string v] r)) W1) :
    St1 w W1 s t a b ∧ PairAt W1 W.heap.size r u v := ⟨(h.alloc _).next hb, (PairAt.made W r u v).below hb⟩
theorem St1.nextDA {w W W1 : World} {s t : TypeId} {a b u v : ByteArray} {r : TypeId} (h : St1 w W s t a b) (hb : Below (W.drew.alloc (.cells #[.string u, .string v] r)).heap.size (W.drew.alloc (.cells #[.string u, .string v] r)) W1) :
    St1 w W1 s t a b ∧ PairAt W1 W.heap.size r u v := ⟨(h.drew.alloc _).next hb, (PairAt.made W.drew r u v).below hb⟩
theorem St1.nextAD {w W W1 : World} {s t : TypeId} {a b u v : ByteArray} {r : TypeId} (h : St1 w W s t a b) (hb : Below ((W.alloc (.cells #[.string u, .string v] r)).drew).heap.size ((W.alloc (.cells #[.string u, .string v] r)).drew) W1) :
    St1 w W1 s t a b ∧ PairAt W1 W.heap.size r u v := ⟨(h.alloc _).drew.next hb, (show PairAt ((W.alloc (.cells #[.string u, .string v] r)).drew) W.heap.size r u v from PairAt.made W r u v).below hb⟩
theorem St1.room {w W : World} {s t : TypeId} {a b : ByteArray} (h : St1 w W s t a b) : w.heap.size + 2 ≤ W.heap.size := by have := h.r.lt; omega
theorem raw_one_lit : raw ⟨#[49]⟩ ⟨#[]⟩ = (1, 1) := by decide +kernel
theorem fOf_one (w : World) (hG : Ground w) :
    Calls Tryd.prog 18 #[.string ⟨#[49]⟩] w fun e w' => e = .returned (.agg #[.string ⟨#[49]⟩, .string ⟨#[]⟩]) ∧ Below w.heap.size w w' := by
  have := fOf_any ⟨#[49]⟩ w hG (by decide)
  rwa [vS_one, cS_one] at this

theorem fQuo_one {q : Int × Int} (n d : ByteArray) (w : World) (hG : Ground w) (ha : n.size ≤ 100000) (hb : d.size ≤ 100000) (h0 : (raw n d).1 ≠ 0) (hq : q = quoP (1, 1) (raw n d)) :
    Calls Tryd.prog 15 #[.agg #[.string ⟨#[49]⟩, .string ⟨#[]⟩], .agg #[.string n, .string d]] w fun r w' => r = .returned (.tuple #[.agg #[.string (cS q.1), .string (cD q.2)], .int .i64 0]) ∧ Below w.heap.size w w' := by
  have := fQuo_any ⟨#[49]⟩ ⟨#[]⟩ n d w hG (by decide) (by decide) ha hb h0
  rwa [raw_one_lit, ← hq] at this

theorem fPower_q {q : Int × Int} {n d : ByteArray} {w V : World} {k : Nat} (hS : St1 w V 24 24 n d) (h1 : (cS q.1).size ≤ 100000) (h2 : (cD q.2).size ≤ 100000) (hr : raw (cS q.1) (cD q.2) = q) (hl : low q = q) (hk : k ≤ 400) :
    Calls Tryd.prog 27 #[.agg #[.string (cS q.1), .string (cD q.2)], .int .i64 k] V fun r w' => r = .returned (.tuple #[.agg #[.string (cS (q.1 ^ k)), .string (cD (q.2 ^ k))], .int .i64 0]) ∧ St1 w w' 24 24 n d := by
  have := fPower_pos (cS q.1) (cD q.2) k V hS.g h1 h2 hk
  rw [hr, hl] at this
  refine this.mono ?_
  rintro _ w' ⟨rfl, hB⟩
  exact ⟨rfl, hS.next hB⟩

set_option maxRecDepth 100000 in
set_option maxHeartbeats 4000000 in
theorem fPower_neg (n d : ByteArray) (k : Nat) (w : World) (hG : Ground w) (ha : n.size ≤ 99998) (hb : d.size ≤ 99998) (hk1 : 1 ≤ k) (hk : k ≤ 400) (h0 : (raw n d).1 ≠ 0) :
    Calls Tryd.prog 27 #[.agg #[.string n, .string d], .int .i64 (-(k : Int))] w fun r w' => r = .returned (.tuple #[.agg #[.string (cS ((quoP (1, 1) (raw n d)).1 ^ k)), .string (cD ((quoP (1, 1) (raw n d)).2 ^ k))], .int .i64 0]) ∧ Below w.heap.size w w' := by
  obtain ⟨m, hm⟩ : ∃ m, m = -(k : Int) := ⟨_, rfl⟩
  have HM := Lib.hid (show -m = (k : Int) by omega)
  have hm0 : m < 0 := by omega
  have hm1 : ¬ m < -400 := by omega
  have hm2 : ¬ 400 < m := by omega
  have hw : IntKind.i64.wrap (-m) = -m := IntWalk.i64_in _ (by omega)
  rw [← hm]
  clear hm hk1
  have hcx := CapP.of_raw (k := 99998) (by decide) ha hb
  obtain ⟨q, hq⟩ : ∃ q, q = quoP (1, 1) (raw n d) := ⟨_, rfl⟩
  have hql : Low q := by rw [hq, quoP_one]; exact Low.of_redS h0
  have hqc : CapP 99998 q := by rw [hq, quoP_one]; exact CapP.redS hcx.2 hcx.1 h0
  have HS1 := Lib.hid (show (cS q.1).size ≤ 100000 by have := cS_size hqc.1; omega)
  have HS2 := Lib.hid (show (cD q.2).size ≤ 100000 by have := cD_size hqc.2; omega)
  have HR := Lib.hid (show raw (cS q.1) (cD q.2) = q from raw_can hql.1)
  have HL := Lib.hid hql.eq
  have HQ := Lib.hid hq
  have H0 := Lib.hid h0
  rw [← hq]
  clear hq hql hqc hcx h0
  obtain ⟨W0, hW0⟩ : ∃ W0, W0 = (w.alloc (.cells #[.string n, .string d] 24)).alloc (.cells #[.string ⟨#[]⟩, .string ⟨#[]⟩] 24) := ⟨_, rfl⟩
  have hS : St1 w W0 24 24 n d := by rw [hW0]; exact St1.made hG _ _ _ _
  go_enter Tryd.func27, Tryd.ntmps27
  go_upto_region 1 with fail
  rw [← hW0]
  clear hW0
  obtain ⟨c0, c1, _, _⟩ := hS.x.cells
  have hne0 : W0.heap.size ≠ w.heap.size := World.new_ne W0 _ c0
  have hg0 := Lib.hid (show w.heap.size + 2 ≤ W0.heap.size from St1.room hS)
  have HS := Lib.hid hS
  clear hS
  go_wp2_with fail
  go_region_held3 (fun w' => w'.cell? ⟨w.heap.size, 0, none⟩ = some (.string n) ∧ w'.cell? ⟨w.heap.size, 1, none⟩ = some (.string d))
    (go_keep)
    (first
    | (go_at_call 18;
         (with_reducible refine Calls.mono (fOf_one _ (by first | exact HS.out.g | exact HS.out.drew.g | exact (HS.out.drewN _).g | exact (HS.out.alloc _).g | exact (HS.out.drew.alloc _).g | exact (HS.out.alloc _).drew.g)) ?_);
         (rintro e WA ⟨rfl, hB1⟩);
         (first
           | ((have HS2 : St1 w WA _ _ n d := (by first | exact HS.out.next hB1 | exact HS.out.next1 hB1)); (replace HS := Lib.hid HS2); (clear HS2))
           | ((have HS2 : St1 w WA _ _ n d ∧ PairAt WA W0.heap.size 24 ⟨#[]⟩ ⟨#[]⟩ := (by first | exact HS.out.nextA hB1 | exact HS.out.nextDA hB1 | exact HS.out.nextAD hB1)); (have hnew := HS2.2); (obtain ⟨n0, n1, n2, n3⟩ := hnew.cells); (replace HS := Lib.hid HS2.1); (clear HS2)));
         (clear hB1);
         (obtain ⟨c0, c1, _, _⟩ := HS.out.x.cells);
         (have hne0 : WA.heap.size ≠ w.heap.size := World.new_ne WA _ c0);
         (have hgA := Lib.hid (show w.heap.size + 2 ≤ WA.heap.size from St1.room HS.out)))
    | (go_at_call 15;
         (with_reducible refine Calls.mono (fQuo_one n d _ (by first | exact HS.out.g | exact HS.out.drew.g | exact (HS.out.drewN _).g | exact (HS.out.alloc _).g | exact (HS.out.drew.alloc _).g | exact (HS.out.alloc _).drew.g) (Nat.le_trans ha (by decide)) (Nat.le_trans hb (by decide)) H0.out HQ.out) ?_);
         (rintro e WB ⟨rfl, hB1⟩);
         (first
           | ((have hnew2 : PairAt WB W0.heap.size 24 ⟨#[]⟩ ⟨#[]⟩ := (by exact hnew.below hB1)); (have HS2 : St1 w WB _ _ n d := (by exact HS.out.next hB1)); (replace hnew := hnew2); (obtain ⟨n0, n1, n2, n3⟩ := hnew.cells); (replace HS := Lib.hid HS2); (clear HS2 hnew2))
           | ((have HS2 : St1 w WB _ _ n d := (by first | exact HS.out.next hB1 | exact HS.out.next1 hB1)); (replace HS := Lib.hid HS2); (clear HS2))
           | ((have HS2 : St1 w WB _ _ n d ∧ PairAt WB WA.heap.size 24 ⟨#[]⟩ ⟨#[]⟩ := (by first | exact HS.out.nextA hB1 | exact HS.out.nextDA hB1 | exact HS.out.nextAD hB1)); (have hnew := HS2.2); (obtain ⟨n0, n1, n2, n3⟩ := hnew.cells); (replace HS := Lib.hid HS2.1); (clear HS2)));
         (clear hB1);
         (obtain ⟨c0, c1, _, _⟩ := HS.out.x.cells);
         (have hne0 : WB.heap.size ≠ w.heap.size := World.new_ne WB _ c0)))
  all_goals go_wp2_with fail
  all_goals rw [HM.out]
  all_goals refine Calls.mono (fPower_q (by first | exact HS.out.alloc _ | exact (HS.out.setB hG hgA.out _).setB hG hgA.out _ | exact (HS.out.setB hG hg0.out _).setB hG hg0.out _) HS1.out HS2.out HR.out HL.out hk) ?_
  all_goals rintro _ w5 ⟨rfl, hS5⟩
  all_goals obtain ⟨c4, c5, c6, c7⟩ := hS5.r.cells
  all_goals go_wp2_with fail
  all_goals obtain ⟨k0, k1, _, _⟩ := (hS5.r.put (cS (q.1 ^ k)) (cD (q.2 ^ k))).cells
  all_goals exact bodyPost_ret (v := .tuple #[.agg #[.string (cS (q.1 ^ k)), .string (cD (q.2 ^ k))], .int .i64 0]) (by simp [results, Tryd.results27, go_sem, k0, k1]) rfl ⟨rfl, below_put hS5.below (by omega) _ _⟩

set_option maxRecDepth 100000 in
set_option maxHeartbeats 4000000 in
theorem fPower_neg_zero (n d : ByteArray) (k : Nat) (w : World) (hG : Ground w) (ha : n.size ≤ 99998) (hk1 : 1 ≤ k) (hk : k ≤ 400) (h0 : (raw n d).1 = 0) :
    Calls Tryd.prog 27 #[.agg #[.string n, .string d], .int .i64 (-(k : Int))] w fun r w' => r = .returned (.tuple #[.agg #[.string ⟨#[]⟩, .string ⟨#[]⟩], .int .i64 10]) ∧ Below w.heap.size w w' := by
  obtain ⟨m, hm⟩ : ∃ m, m = -(k : Int) := ⟨_, rfl⟩
  have HM := Lib.hid (show -m = (k : Int) by omega)
  have hm0 : m < 0 := by omega
  have hm1 : ¬ m < -400 := by omega
  have hm2 : ¬ 400 < m := by omega
  have hw : IntKind.i64.wrap (-m) = -m := IntWalk.i64_in _ (by omega)
  rw [← hm]
  clear hm hk1
  have H0 := Lib.hid h0
  clear h0
  obtain ⟨W0, hW0⟩ : ∃ W0, W0 = (w.alloc (.cells #[.string n, .string d] 24)).alloc (.cells #[.string ⟨#[]⟩, .string ⟨#[]⟩] 24) := ⟨_, rfl⟩
  have hS : St1 w W0 24 24 n d := by rw [hW0]; exact St1.made hG _ _ _ _
  go_enter Tryd.func27, Tryd.ntmps27
  go_upto_region 1 with fail
  rw [← hW0]
  clear hW0
  obtain ⟨c0, c1, _, _⟩ := hS.x.cells
  have hne0 : W0.heap.size ≠ w.heap.size := World.new_ne W0 _ c0
  have hg0 := Lib.hid (show w.heap.size + 2 ≤ W0.heap.size from St1.room hS)
  have HS := Lib.hid hS
  clear hS
  go_wp2_with fail
  go_region_held3 (fun w' => w'.cell? ⟨w.heap.size, 0, none⟩ = some (.string n) ∧ w'.cell? ⟨w.heap.size, 1, none⟩ = some (.string d))
    (go_keep)
    (first
    | (go_at_call 18;
         (with_reducible refine Calls.mono (fOf_one _ (by first | exact HS.out.g | exact HS.out.drew.g | exact (HS.out.drewN _).g | exact (HS.out.alloc _).g | exact (HS.out.drew.alloc _).g | exact (HS.out.alloc _).drew.g)) ?_);
         (rintro e WA ⟨rfl, hB1⟩);
         (first
           | ((have HS2 : St1 w WA _ _ n d := (by first | exact HS.out.next hB1 | exact HS.out.next1 hB1)); (replace HS := Lib.hid HS2); (clear HS2))
           | ((have HS2 : St1 w WA _ _ n d ∧ PairAt WA W0.heap.size 24 ⟨#[]⟩ ⟨#[]⟩ := (by first | exact HS.out.nextA hB1 | exact HS.out.nextDA hB1 | exact HS.out.nextAD hB1)); (have hnew := HS2.2); (obtain ⟨n0, n1, n2, n3⟩ := hnew.cells); (replace HS := Lib.hid HS2.1); (clear HS2)));
         (clear hB1);
         (obtain ⟨c0, c1, _, _⟩ := HS.out.x.cells);
         (have hne0 : WA.heap.size ≠ w.heap.size := World.new_ne WA _ c0);
         (have hgA := Lib.hid (show w.heap.size + 2 ≤ WA.heap.size from St1.room HS.out)))
    | (go_at_call 15;
         (with_reducible refine Calls.mono (fQuo_zero ⟨#[49]⟩ ⟨#[]⟩ n d _ (by first | exact HS.out.g | exact HS.out.drew.g | exact (HS.out.drewN _).g | exact (HS.out.alloc _).g | exact (HS.out.drew.alloc _).g | exact (HS.out.alloc _).drew.g) (Nat.le_trans ha (by decide)) H0.out) ?_);
         (rintro e WB ⟨rfl, hB1⟩);
         (first
           | ((have hnew2 : PairAt WB W0.heap.size 24 ⟨#[]⟩ ⟨#[]⟩ := (by exact hnew.below hB1)); (have HS2 : St1 w WB _ _ n d := (by exact HS.out.next hB1)); (replace hnew := hnew2); (obtain ⟨n0, n1, n2, n3⟩ := hnew.cells); (replace HS := Lib.hid HS2); (clear HS2 hnew2))
           | ((have HS2 : St1 w WB _ _ n d := (by first | exact HS.out.next hB1 | exact HS.out.next1 hB1)); (replace HS := Lib.hid HS2); (clear HS2))
           | ((have HS2 : St1 w WB _ _ n d ∧ PairAt WB WA.heap.size 24 ⟨#[]⟩ ⟨#[]⟩ := (by first | exact HS.out.nextA hB1 | exact HS.out.nextDA hB1 | exact HS.out.nextAD hB1)); (have hnew := HS2.2); (obtain ⟨n0, n1, n2, n3⟩ := hnew.cells); (replace HS := Lib.hid HS2.1); (clear HS2)));
         (clear hB1);
         (obtain ⟨c0, c1, _, _⟩ := HS.out.x.cells);
         (have hne0 : WB.heap.size ≠ w.heap.size := World.new_ne WB _ c0)))
  all_goals have hV1 := HS.out.alloc (.cells #[.string ⟨#[]⟩, .string ⟨#[]⟩] 24)
  all_goals have hV2 := (HS.out.setB hG (o := 0) hgA.out (.string ⟨#[]⟩)).setB hG (o := 1) hgA.out (.string ⟨#[]⟩)
  all_goals have hV3 := (HS.out.setB hG (o := 0) hg0.out (.string ⟨#[]⟩)).setB hG (o := 1) hg0.out (.string ⟨#[]⟩)
  all_goals obtain ⟨p0, p1, p2, p3⟩ := hV1.r.cells
  all_goals obtain ⟨q0, q1, q2, q3⟩ := hV2.r.cells
  all_goals obtain ⟨r0, r1, r2, r3⟩ := hV3.r.cells
  all_goals go_wp2_with fail
  all_goals obtain ⟨k0, k1, _, _⟩ := (hV1.r.put ⟨#[]⟩ ⟨#[]⟩).cells
  all_goals obtain ⟨l0, l1, _, _⟩ := (hV2.r.put ⟨#[]⟩ ⟨#[]⟩).cells
  all_goals obtain ⟨m0, m1, _, _⟩ := (hV3.r.put ⟨#[]⟩ ⟨#[]⟩).cells
  all_goals first
    | exact bodyPost_ret (v := .tuple #[.agg #[.string ⟨#[]⟩, .string ⟨#[]⟩], .int .i64 10]) (by simp [results, Tryd.results27, go_sem, k0, k1]) rfl ⟨rfl, below_put hV1.below (by omega) _ _⟩
    | exact bodyPost_ret (v := .tuple #[.agg #[.string ⟨#[]⟩, .string ⟨#[]⟩], .int .i64 10]) (by simp [results, Tryd.results27, go_sem, l0, l1]) rfl ⟨rfl, below_put hV2.below (by omega) _ _⟩
    | exact bodyPost_ret (v := .tuple #[.agg #[.string ⟨#[]⟩, .string ⟨#[]⟩], .int .i64 10]) (by simp [results, Tryd.results27, go_sem, m0, m1]) rfl ⟨rfl, below_put hV3.below (by omega) _ _⟩

end Go.Proofs.YtldohkfomdcpoaaDoor
