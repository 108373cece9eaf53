/- The reference implementation of layer 2: Neg, Add, Sub, Mul, Quo, Compare, Floor: the walks. -/
import Derived.Test.YthhihdihkddakaaGreatDoorZShA
import Derived.Test.YthhihdihkddakaaGreatDoorZShJ
import Derived.Test.YthhihdihkddakaaGreatDoorZShK
import Derived.Lib.Bytealg
import Derived.Lib.CutLaws
import Derived.Lib.Strings
import Derived.Lib.TrimByte
namespace Go.Proofs.YthhihdihkddakaaGreatDoor
open Go.RowKit Fra

theorem Cap.fdiv {k : Nat} {n d : Int} (h : Cap k n) (hd : 0 < d) : Cap (k + 1) (Int.fdiv n d) := by
  have hb := floor_bounds (n := n) hd
  unfold Cap at *
  rw [Nat.pow_succ]
  generalize Int.fdiv n d = q at *
  have h1 : q ≤ n.natAbs := by
    rcases Int.lt_or_le q 1 with h | h
    · omega
    · have := Int.mul_le_mul_of_nonneg_left (show (1 : Int) ≤ d by omega) (show 0 ≤ q by omega); omega
  have h2 : -(n.natAbs : Int) - 1 ≤ q := by
    rcases Int.lt_or_le q (-1) with h | h
    · have := Int.mul_le_mul_of_nonpos_left (show q + 1 ≤ 0 by omega) (show (1 : Int) ≤ d by omega); omega
    · omega
  omega
theorem rsz {k : Nat} {z : Int} (h : Cap k z) {l : Nat} (hk : k + 1 ≤ l) : (cS z).size ≤ l := by have := cS_size h; omega
theorem qMul {a b : ByteArray} {x y z : Int} (w : World) (ha : a.size ≤ 1000) (hb : b.size ≤ 1000) (hx : vS a = x) (hy : vS b = y) (hz : x * y = z) :
    Calls Tryz.prog 64 #[.string a, .string b] w (StrPost w z) := by rw [← hz, ← hx, ← hy]; exact rMul_any a b w ha hb
theorem qAdd {a b : ByteArray} {x y z : Int} (w : World) (ha : a.size ≤ 1000) (hb : b.size ≤ 1000) (hx : vS a = x) (hy : vS b = y) (hz : x + y = z) :
    Calls Tryz.prog 59 #[.string a, .string b] w (StrPost w z) := by rw [← hz, ← hx, ← hy]; exact rAdd_any a b w ha hb
theorem qCmp {a b : ByteArray} {x y z : Int} (w : World) (ha : a.size ≤ 4294967296) (hb : b.size ≤ 4294967296) (hx : vS a = x) (hy : vS b = y) (hz : cmp3 x y = z) :
    Calls Tryz.prog 73 #[.string a, .string b] w fun e w' => e = .returned (.int .i64 z) ∧ w = w' := by rw [← hz, ← hx, ← hy]; exact rCompare_any a b w ha hb

set_option maxRecDepth 100000 in
set_option maxHeartbeats 2000000 in
theorem qNeg_any (n d : ByteArray) (w : World) (hG : Ground w) (hn : n.size ≤ 850) (hd : d.size ≤ 850) :
    Calls Tryz.prog 106 #[.agg #[.string n, .string d]] w (FPost w (negP (raw n d))) := by
  have HP := Lib.hid (raw_pos n d)
  have hc := CapP.of_raw (k := 850) (by decide) hn hd
  have HSZ := Lib.hid (show (cS (-(raw n d).1)).size ≤ 900 from rsz hc.1.neg (by decide))
  clear hc
  obtain ⟨W0, hW0⟩ : ∃ W0, W0 = (w.alloc (.cells #[.string n, .string d] 36)).alloc (.cells #[.string ⟨#[]⟩, .string ⟨#[]⟩] 36) := ⟨_, rfl⟩
  have hS : St1 w W0 36 36 n d := by rw [hW0]; exact St1.made hG _ _ _ _
  obtain ⟨c0, c1, _, _⟩ := hS.x.cells
  go_enter Tryz.func106, Tryz.ntmps106
  go_wp2_with fail
  rw [← hW0]
  clear hW0
  refine (qRaw n d W0 851 hS.g (by omega) (by omega) (by decide)).mono ?_
  rintro _ w1 ⟨a, b, rfl, e1, e2, e3, e4, hB⟩
  replace hS := hS.next hB
  have HE1 := Lib.hid e1
  have HE2 := Lib.hid e2
  clear hB e1 e2 c0 c1
  go_wp2_with fail
  refine (rNeg_any a w1 (by omega)).mono ?_
  rintro _ _ ⟨rfl, rfl⟩
  rw [HE1.out]
  go_wp2_with fail
  refine (show Calls _ _ _ w1 (FPost w1 (negP (raw n d))) from qReduced w1 HSZ.out (by omega) (vS_cS _) HE2.out HP.out).mono ?_
  rintro _ w2 ⟨rfl, hB⟩
  replace hS := hS.next hB
  clear hB
  obtain ⟨r0, r1, r2, r3⟩ := hS.r.cells
  go_wp2_with fail
  obtain ⟨k0, k1, _, _⟩ := (hS.r.put (cS (negP (raw n d)).1) (cD (negP (raw n d)).2)).cells
  exact bodyPost_ret (v := .agg #[.string (cS (negP (raw n d)).1), .string (cD (negP (raw n d)).2)]) (by simp [results, Tryz.results106, go_sem, k0, k1]) rfl ⟨rfl, below_put hS.below (by omega) _ _⟩

set_option maxRecDepth 100000 in
set_option maxHeartbeats 2000000 in
theorem qAdd_any (n d m e : ByteArray) (w : World) (hG : Ground w) (hn : n.size ≤ 400) (hd : d.size ≤ 400) (hm : m.size ≤ 400) (he : e.size ≤ 400) :
    Calls Tryz.prog 67 #[.agg #[.string n, .string d], .agg #[.string m, .string e]] w (FPost w (addP (raw n d) (raw m e))) := by
  have cx := CapP.of_raw (k := 400) (by decide) hn hd
  have cy := CapP.of_raw (k := 400) (by decide) hm he
  have xp := raw_pos n d
  have yp := raw_pos m e
  have HU := Lib.hid (show (cS ((raw n d).1 * (raw m e).2 + (raw m e).1 * (raw n d).2)).size ≤ 900 from rsz (Cap.add (Cap.mul cx.1 cy.2) (Cap.mul cy.1 cx.2)) (by decide))
  have HV := Lib.hid (show (cS ((raw n d).2 * (raw m e).2)).size ≤ 900 from rsz (Cap.mul cx.2 cy.2) (by decide))
  have HU1 := Lib.hid (show (cS ((raw n d).1 * (raw m e).2)).size ≤ 1000 from rsz (Cap.mul cx.1 cy.2) (by decide))
  have HU2 := Lib.hid (show (cS ((raw m e).1 * (raw n d).2)).size ≤ 1000 from rsz (Cap.mul cy.1 cx.2) (by decide))
  have HP := Lib.hid (Int.mul_pos xp yp)
  clear cx cy
  obtain ⟨W0, hW0⟩ : ∃ W0, W0 = (((w.alloc (.cells #[.string n, .string d] 36)).alloc (.cells #[.string m, .string e] 36)).alloc (.cells #[.string ⟨#[]⟩, .string ⟨#[]⟩] 36)) := ⟨_, rfl⟩
  have hS : St2 w W0 36 36 n d m e := by rw [hW0]; exact St2.made hG _ _ _ _ _ _
  obtain ⟨c0, c1, c2, c3, _, _, _, _⟩ := hS.cells
  go_enter Tryz.func67, Tryz.ntmps67
  go_wp2_with fail
  rw [← hW0]
  clear hW0
  refine (qRaw n d W0 401 hS.g (by omega) (by omega) (by decide)).mono ?_
  rintro _ w1 ⟨a, b, rfl, e1, e2, a1, b1, hB⟩
  replace hS := hS.next hB
  have HA := Lib.hid e1
  have HBB := Lib.hid e2
  clear hB e1 e2 c0 c1 c2 c3
  obtain ⟨c0, c1, c2, c3, _, _, _, _⟩ := hS.cells
  go_wp2_with fail
  refine (qRaw m e w1 401 hS.g (by omega) (by omega) (by decide)).mono ?_
  rintro _ w2 ⟨c, f, rfl, e1, e2, c1', f1, hB⟩
  replace hS := hS.next hB
  have HC := Lib.hid e1
  have HF := Lib.hid e2
  clear hB e1 e2 c0 c1 c2 c3
  go_wp2_with fail
  refine (qMul (x := (raw n d).1) (y := (raw m e).2) (z := (raw n d).1 * (raw m e).2) _ (by omega) (by omega) HA.out HF.out rfl).mono ?_
  rintro _ w3 ⟨rfl, hB⟩
  replace hS := hS.next hB
  clear hB
  go_wp2_with fail
  refine (qMul (x := (raw m e).1) (y := (raw n d).2) (z := (raw m e).1 * (raw n d).2) _ (by omega) (by omega) HC.out HBB.out rfl).mono ?_
  rintro _ w4 ⟨rfl, hB⟩
  replace hS := hS.next hB
  clear hB
  go_wp2_with fail
  refine (qAdd (x := (raw n d).1 * (raw m e).2) (y := (raw m e).1 * (raw n d).2) _ HU1.out HU2.out (vS_cS _) (vS_cS _) rfl).mono ?_
  rintro _ w5 ⟨rfl, hB⟩
  replace hS := hS.next hB
  clear hB
  go_wp2_with fail
  refine (qMul (x := (raw n d).2) (y := (raw m e).2) (z := (raw n d).2 * (raw m e).2) _ (by omega) (by omega) HBB.out HF.out rfl).mono ?_
  rintro _ w6 ⟨rfl, hB⟩
  replace hS := hS.next hB
  clear hB
  go_wp2_with fail
  refine (show Calls _ _ _ w6 (FPost w6 (addP (raw n d) (raw m e))) from qReduced w6 HU.out HV.out (vS_cS _) (vS_cS _) HP.out).mono ?_
  rintro _ w7 ⟨rfl, hB⟩
  replace hS := hS.next hB
  clear hB
  obtain ⟨r0, r1, r2, r3⟩ := hS.r.cells
  go_wp2_with fail
  obtain ⟨k0, k1, _, _⟩ := (hS.r.put (cS (addP (raw n d) (raw m e)).1) (cD (addP (raw n d) (raw m e)).2)).cells
  exact bodyPost_ret (v := .agg #[.string (cS (addP (raw n d) (raw m e)).1), .string (cD (addP (raw n d) (raw m e)).2)]) (by simp [results, Tryz.results67, go_sem, k0, k1]) rfl ⟨rfl, below_put hS.below (by omega) _ _⟩

set_option maxRecDepth 100000 in
set_option maxHeartbeats 2000000 in
theorem qMul_any (n d m e : ByteArray) (w : World) (hG : Ground w) (hn : n.size ≤ 400) (hd : d.size ≤ 400) (hm : m.size ≤ 400) (he : e.size ≤ 400) :
    Calls Tryz.prog 81 #[.agg #[.string n, .string d], .agg #[.string m, .string e]] w (FPost w (mulP (raw n d) (raw m e))) := by
  have cx := CapP.of_raw (k := 400) (by decide) hn hd
  have cy := CapP.of_raw (k := 400) (by decide) hm he
  have xp := raw_pos n d
  have yp := raw_pos m e
  have HU := Lib.hid (show (cS ((raw n d).1 * (raw m e).1)).size ≤ 900 from rsz (Cap.mul cx.1 cy.1) (by decide))
  have HV := Lib.hid (show (cS ((raw n d).2 * (raw m e).2)).size ≤ 900 from rsz (Cap.mul cx.2 cy.2) (by decide))
  have HP := Lib.hid (Int.mul_pos xp yp)
  clear cx cy
  obtain ⟨W0, hW0⟩ : ∃ W0, W0 = (((w.alloc (.cells #[.string n, .string d] 36)).alloc (.cells #[.string m, .string e] 36)).alloc (.cells #[.string ⟨#[]⟩, .string ⟨#[]⟩] 36)) := ⟨_, rfl⟩
  have hS : St2 w W0 36 36 n d m e := by rw [hW0]; exact St2.made hG _ _ _ _ _ _
  obtain ⟨c0, c1, c2, c3, _, _, _, _⟩ := hS.cells
  go_enter Tryz.func81, Tryz.ntmps81
  go_wp2_with fail
  rw [← hW0]
  clear hW0
  refine (qRaw n d W0 401 hS.g (by omega) (by omega) (by decide)).mono ?_
  rintro _ w1 ⟨a, b, rfl, e1, e2, a1, b1, hB⟩
  replace hS := hS.next hB
  have HA := Lib.hid e1
  have HBB := Lib.hid e2
  clear hB e1 e2 c0 c1 c2 c3
  obtain ⟨c0, c1, c2, c3, _, _, _, _⟩ := hS.cells
  go_wp2_with fail
  refine (qRaw m e w1 401 hS.g (by omega) (by omega) (by decide)).mono ?_
  rintro _ w2 ⟨c, f, rfl, e1, e2, c1', f1, hB⟩
  replace hS := hS.next hB
  have HC := Lib.hid e1
  have HF := Lib.hid e2
  clear hB e1 e2 c0 c1 c2 c3
  go_wp2_with fail
  refine (qMul (x := (raw n d).1) (y := (raw m e).1) (z := (raw n d).1 * (raw m e).1) _ (by omega) (by omega) HA.out HC.out rfl).mono ?_
  rintro _ w3 ⟨rfl, hB⟩
  replace hS := hS.next hB
  clear hB
  go_wp2_with fail
  refine (qMul (x := (raw n d).2) (y := (raw m e).2) (z := (raw n d).2 * (raw m e).2) _ (by omega) (by omega) HBB.out HF.out rfl).mono ?_
  rintro _ w4 ⟨rfl, hB⟩
  replace hS := hS.next hB
  clear hB
  go_wp2_with fail
  refine (show Calls _ _ _ w4 (FPost w4 (mulP (raw n d) (raw m e))) from qReduced w4 HU.out HV.out (vS_cS _) (vS_cS _) HP.out).mono ?_
  rintro _ w5 ⟨rfl, hB⟩
  replace hS := hS.next hB
  clear hB
  obtain ⟨r0, r1, r2, r3⟩ := hS.r.cells
  go_wp2_with fail
  obtain ⟨k0, k1, _, _⟩ := (hS.r.put (cS (mulP (raw n d) (raw m e)).1) (cD (mulP (raw n d) (raw m e)).2)).cells
  exact bodyPost_ret (v := .agg #[.string (cS (mulP (raw n d) (raw m e)).1), .string (cD (mulP (raw n d) (raw m e)).2)]) (by simp [results, Tryz.results81, go_sem, k0, k1]) rfl ⟨rfl, below_put hS.below (by omega) _ _⟩

set_option maxRecDepth 100000 in
set_option maxHeartbeats 2000000 in
theorem qCompare_any (n d m e : ByteArray) (w : World) (hG : Ground w) (hn : n.size ≤ 400) (hd : d.size ≤ 400) (hm : m.size ≤ 400) (he : e.size ≤ 400) :
    Calls Tryz.prog 58 #[.agg #[.string n, .string d], .agg #[.string m, .string e]] w fun r w' => r = .returned (.int .i64 (cmpP (raw n d) (raw m e))) ∧ Below w.heap.size w w' := by
  have cx := CapP.of_raw (k := 400) (by decide) hn hd
  have cy := CapP.of_raw (k := 400) (by decide) hm he
  have xp := raw_pos n d
  have yp := raw_pos m e
  have HU1 := Lib.hid (show (cS ((raw n d).1 * (raw m e).2)).size ≤ 1000 from rsz (Cap.mul cx.1 cy.2) (by decide))
  have HU2 := Lib.hid (show (cS ((raw m e).1 * (raw n d).2)).size ≤ 1000 from rsz (Cap.mul cy.1 cx.2) (by decide))
  clear xp yp
  clear cx cy
  obtain ⟨W0, hW0⟩ : ∃ W0, W0 = ((w.alloc (.cells #[.string n, .string d] 36)).alloc (.cells #[.string m, .string e] 36)) := ⟨_, rfl⟩
  have hS : StL w W0 [(w.heap.size + 1, m, e), (w.heap.size, n, d)] := by rw [hW0]; exact StL.two hG _ _ _ _
  obtain ⟨p0, p1, _⟩ := hS.box
  obtain ⟨c0, c1, _, _⟩ := p0.cells
  obtain ⟨c2, c3, _, _⟩ := p1.cells
  go_enter Tryz.func58, Tryz.ntmps58
  go_wp2_with fail
  rw [← hW0]
  clear hW0
  refine (qRaw n d W0 401 hS.g (by omega) (by omega) (by decide)).mono ?_
  rintro _ w1 ⟨a, b, rfl, e1, e2, a1, b1, hB⟩
  replace hS := hS.next hB
  have HA := Lib.hid e1
  have HBB := Lib.hid e2
  clear hB e1 e2 p0 p1 c0 c1 c2 c3
  obtain ⟨p0, p1, _⟩ := hS.box
  obtain ⟨c0, c1, _, _⟩ := p0.cells
  obtain ⟨c2, c3, _, _⟩ := p1.cells
  go_wp2_with fail
  refine (qRaw m e w1 401 hS.g (by omega) (by omega) (by decide)).mono ?_
  rintro _ w2 ⟨c, f, rfl, e1, e2, c1', f1, hB⟩
  replace hS := hS.next hB
  have HC := Lib.hid e1
  have HF := Lib.hid e2
  clear hB e1 e2 p0 p1 c0 c1 c2 c3
  go_wp2_with fail
  refine (qMul (x := (raw n d).1) (y := (raw m e).2) (z := (raw n d).1 * (raw m e).2) _ (by omega) (by omega) HA.out HF.out rfl).mono ?_
  rintro _ w3 ⟨rfl, hB⟩
  replace hS := hS.next hB
  clear hB
  go_wp2_with fail
  refine (qMul (x := (raw m e).1) (y := (raw n d).2) (z := (raw m e).1 * (raw n d).2) _ (by omega) (by omega) HC.out HBB.out rfl).mono ?_
  rintro _ w4 ⟨rfl, hB⟩
  replace hS := hS.next hB
  clear hB
  go_wp2_with fail
  refine (qCmp (x := (raw n d).1 * (raw m e).2) (y := (raw m e).1 * (raw n d).2) (z := cmpP (raw n d) (raw m e)) w4 (Nat.le_trans HU1.out (by decide)) (Nat.le_trans HU2.out (by decide)) (vS_cS _) (vS_cS _) rfl).mono ?_
  rintro _ _ ⟨rfl, rfl⟩
  go_wp2_with fail
  go_ret
  exact ⟨rfl, hS.below⟩

set_option maxRecDepth 100000 in
set_option maxHeartbeats 2000000 in
theorem qSub_any (n d m e : ByteArray) (w : World) (hG : Ground w) (hn : n.size ≤ 400) (hd : d.size ≤ 400) (hm : m.size ≤ 398) (he : e.size ≤ 398) :
    Calls Tryz.prog 53 #[.agg #[.string n, .string d], .agg #[.string m, .string e]] w (FPost w (addP (raw n d) (negP (raw m e)))) := by
  have cy := CapP.neg (CapP.of_raw (k := 398) (by decide) hm he) (raw_pos m e)
  have HU := Lib.hid (show (cS (negP (raw m e)).1).size ≤ 400 from rsz cy.1 (by decide))
  have HV := Lib.hid (show (cD (negP (raw m e)).2).size ≤ 400 by have := cD_size cy.2; omega)
  have HR := Lib.hid (raw_can (negP_pos (raw_pos m e)))
  have hadd : ∀ W, Ground W → Calls Tryz.prog 67 #[.agg #[.string n, .string d], .agg #[.string (cS (negP (raw m e)).1), .string (cD (negP (raw m e)).2)]] W (FPost W (addP (raw n d) (negP (raw m e)))) := by
    intro W hW
    have := qAdd_any n d (cS (negP (raw m e)).1) (cD (negP (raw m e)).2) W hW hn hd HU.out HV.out
    rwa [HR.out] at this
  have HADD := Lib.hid hadd
  clear cy hadd
  obtain ⟨W0, hW0⟩ : ∃ W0, W0 = ((w.alloc (.cells #[.string n, .string d] 36)).alloc (.cells #[.string m, .string e] 36)).alloc (.cells #[.string ⟨#[]⟩, .string ⟨#[]⟩] 36) := ⟨_, rfl⟩
  have hS : St2 w W0 36 36 n d m e := by rw [hW0]; exact St2.made hG _ _ _ _ _ _
  obtain ⟨c0, c1, c2, c3, c4, c5, c6, c7⟩ := hS.cells
  have hn1 : w.heap.size + 1 + 1 ≠ w.heap.size := by omega
  have HS := Lib.hid hS
  clear hS
  go_enter Tryz.func53, Tryz.ntmps53
  go_wp2_with fail
  rw [← hW0]
  clear hW0
  go_region_held3 (fun w' => w'.cell? ⟨w.heap.size, 0, none⟩ = some (.string n) ∧ w'.cell? ⟨w.heap.size, 1, none⟩ = some (.string d) ∧ w'.cell? ⟨w.heap.size + 1, 0, none⟩ = some (.string m) ∧ w'.cell? ⟨w.heap.size + 1, 1, none⟩ = some (.string e))
    (go_keep)
    (first
    | (go_at_call 106;
         (with_reducible refine Calls.mono (qNeg_any m e _ (by first | exact HS.out.g | exact HS.out.drew.g | exact (HS.out.drewN _).g) (by omega) (by omega)) ?_);
         (rintro _ W1 ⟨rfl, hB1⟩);
         (have HS2 : St2 w W1 _ _ n d m e := (by first | exact HS.out.next hB1 | exact HS.out.next1 hB1 | exact HS.out.nextD hB1));
         (replace HS := Lib.hid HS2);
         (clear hB1 HS2);
         (obtain ⟨c0, c1, c2, c3, c4, c5, c6, c7⟩ := HS.out.cells))
    | (go_at_call 67;
         (with_reducible refine Calls.mono (HADD.out _ (by first | exact HS.out.g | exact HS.out.drew.g | exact (HS.out.drewN _).g)) ?_);
         (rintro _ W1 ⟨rfl, hB1⟩);
         (have HS2 : St2 w W1 _ _ n d m e := (by first | exact HS.out.next hB1 | exact HS.out.next1 hB1 | exact HS.out.nextD hB1));
         (replace HS := Lib.hid HS2);
         (clear hB1 HS2);
         (obtain ⟨c0, c1, c2, c3, c4, c5, c6, c7⟩ := HS.out.cells)))
  all_goals go_wp2_with fail
  all_goals obtain ⟨k0, k1, _, _⟩ := (HS.out.r.put (cS (addP (raw n d) (negP (raw m e))).1) (cD (addP (raw n d) (negP (raw m e))).2)).cells
  all_goals exact bodyPost_ret (v := .agg #[.string (cS (addP (raw n d) (negP (raw m e))).1), .string (cD (addP (raw n d) (negP (raw m e))).2)]) (by simp [results, Tryz.results53, go_sem, k0, k1]) rfl ⟨rfl, below_put HS.out.below (by omega) _ _⟩

set_option maxRecDepth 100000 in
set_option maxHeartbeats 2000000 in
theorem qFloor_any (n d : ByteArray) (w : World) (hG : Ground w) (hn : n.size ≤ 400) (hd : d.size ≤ 400) :
    Calls Tryz.prog 52 #[.agg #[.string n, .string d]] w (StrPost w (Int.fdiv (raw n d).1 (raw n d).2)) := by
  obtain ⟨q, hq⟩ : ∃ q, Int.fdiv (raw n d).1 (raw n d).2 = q := ⟨_, rfl⟩
  have xp := raw_pos n d
  have cx := CapP.of_raw (k := 400) (by decide) hn hd
  have hb := floor_bounds (n := (raw n d).1) xp
  rw [hq] at hb
  obtain ⟨c, hc⟩ : ∃ c, cmp3 (q * (raw n d).2) (raw n d).1 = c := ⟨_, rfl⟩
  have hc0 : ¬ 0 < c := by rw [← hc]; rw [cmp3_pos]; omega
  have hqc : Cap 401 q := by rw [← hq]; exact Cap.fdiv cx.1 xp
  have HQS := Lib.hid (show (cS q).size ≤ 1000 from rsz hqc (by decide))
  have HMS := Lib.hid (show (cS (q * (raw n d).2)).size ≤ 4294967296 from rsz (Cap.mul hqc cx.2) (by decide))
  have HX := Lib.hid (show (raw n d).2 ≠ 0 by omega)
  have HQ := Lib.hid hq
  have HC := Lib.hid hc
  rw [hq]
  clear hq hb hc hqc cx xp
  obtain ⟨W0, hW0⟩ : ∃ W0, W0 = w.alloc (.cells #[.string n, .string d] 36) := ⟨_, rfl⟩
  have hS : StX w W0 36 n d := by rw [hW0]; exact StX.made hG _ _ _
  obtain ⟨c0, c1, _, _⟩ := hS.x.cells
  go_enter Tryz.func52, Tryz.ntmps52
  go_wp2_with fail
  rw [← hW0]
  clear hW0
  refine (qRaw n d W0 401 hS.g (by omega) (by omega) (by decide)).mono ?_
  rintro _ w1 ⟨a, b, rfl, e1, e2, e3, e4, hB⟩
  replace hS := hS.next hB
  have HE1 := Lib.hid e1
  have HE2 := Lib.hid e2
  clear hB e1 e2 c0 c1
  go_wp2_with fail
  refine (show Calls _ _ _ w1 (fun e w' => e = .returned (.tuple #[.string (cS q), .string (cS (Int.fmod (raw n d).1 (raw n d).2)), .int .i64 0]) ∧ Below w1.heap.size w1 w') from by
    have := rDiv_any a b w1 (by omega) (by omega) (by rw [HE2.out]; exact HX.out)
    rw [HE1.out, HE2.out] at this
    unfold DivPost at this
    rwa [HQ.out] at this).mono ?_
  rintro _ w2 ⟨rfl, hB⟩
  replace hS := hS.next hB
  clear hB
  go_wp2_with fail
  refine (qMul (x := q) (y := (raw n d).2) (z := q * (raw n d).2) w2 HQS.out (by omega) (vS_cS _) HE2.out rfl).mono ?_
  rintro _ w3 ⟨rfl, hB⟩
  replace hS := hS.next hB
  clear hB
  go_wp2_with fail
  refine (qCmp (x := q * (raw n d).2) (y := (raw n d).1) (z := c) w3 HMS.out (by omega) (vS_cS _) HE1.out HC.out).mono ?_
  rintro _ _ ⟨rfl, rfl⟩
  go_wp2_with fail
  go_ret
  exact ⟨rfl, hS.below⟩

end Go.Proofs.YthhihdihkddakaaGreatDoor

/- The plain mathematics of rounding: by the number rounded down, and what is left over. -/
namespace Go.Proofs.YthhihdihkddakaaGreatDoor.Fra

/-- rounding, told by the number rounded down and the rest -/
def rndR (m q r d : Int) : Int :=
  if r = 0 then q else
  if (m = 1 ∧ (d < 2 * r ∨ (2 * r = d ∧ q % 2 = 1))) ∨ (m = 2 ∧ (d < 2 * r ∨ (2 * r = d ∧ 0 ≤ q))) ∨ (m = 3 ∧ q < 0) ∨ (m = 4 ∧ 0 ≤ q) ∨ m = 6 then q + 1 else q

def rest (x : Int × Int) : Int := x.1 - Int.fdiv x.1 x.2 * x.2
def rnd (m : Int) (x : Int × Int) : Int := rndR m (Int.fdiv x.1 x.2) (rest x) x.2

theorem rest_bounds {x : Int × Int} (hx : 0 < x.2) : 0 ≤ rest x ∧ rest x < x.2 := by
  obtain ⟨h1, h2⟩ := floor_bounds (n := x.1) hx
  rw [Int.add_mul] at h2
  unfold rest
  omega

/-- the number is below 0 exactly if it is so rounded down -/
theorem floor_sign {x : Int × Int} (hx : 0 < x.2) : x.1 < 0 ↔ Int.fdiv x.1 x.2 < 0 := by
  obtain ⟨h1, h2⟩ := floor_bounds (n := x.1) hx
  constructor
  · intro h
    have h3 : Int.fdiv x.1 x.2 * x.2 < 0 * x.2 := by omega
    exact Int.lt_of_mul_lt_mul_right h3 (by omega)
  · intro h
    have h3 : (Int.fdiv x.1 x.2 + 1) * x.2 ≤ 0 * x.2 := Int.mul_le_mul_of_nonneg_right (by omega) (by omega)
    omega

theorem rndR_scale {m q r d k : Int} (hk : 0 < k) : rndR m q (r * k) (d * k) = rndR m q r d := by
  have e0 : r * k = 0 ↔ r = 0 := ⟨fun h => (Int.mul_eq_zero.mp h).resolve_right (by omega), fun h => by rw [h, Int.zero_mul]⟩
  have e1 : d * k < 2 * (r * k) ↔ d < 2 * r := by
    rw [← Int.mul_assoc]
    exact ⟨fun h => Int.lt_of_mul_lt_mul_right h (by omega), fun h => Int.mul_lt_mul_of_pos_right h hk⟩
  have e2 : 2 * (r * k) = d * k ↔ 2 * r = d := by
    rw [← Int.mul_assoc]
    exact ⟨fun h => Int.eq_of_mul_eq_mul_right (by omega) h, fun h => by rw [h]⟩
  unfold rndR
  simp only [e0, e1, e2]

theorem rnd_congr {m : Int} {x y : Int × Int} (hx : 0 < x.2) (hy : 0 < y.2) (h : Same x y) : rnd m x = rnd m y := by
  have hq := floor_congr hx hy h
  have hr : rest x * y.2 = rest y * x.2 := by
    unfold rest Same at *
    rw [hq, Int.sub_mul, Int.sub_mul, h, Int.mul_right_comm (Int.fdiv y.1 y.2) x.2]
  unfold rnd
  rw [hq, ← rndR_scale (r := rest x) (k := y.2) hy, hr, Int.mul_comm x.2, rndR_scale hx]

theorem rnd_low {m : Int} {x : Int × Int} (hx : 0 < x.2) : rnd m (low x) = rnd m x := rnd_congr (low_pos hx) hx Same.low

theorem rnd_range (m : Int) {x : Int × Int} : rnd m x = Int.fdiv x.1 x.2 ∨ rnd m x = Int.fdiv x.1 x.2 + 1 := by
  unfold rnd rndR
  split
  · exact Or.inl rfl
  · split
    · exact Or.inr rfl
    · exact Or.inl rfl

/-- what the reference compares -/
theorem rest_same {x : Int × Int} : Same (addP x (negP (Int.fdiv x.1 x.2, 1))) (rest x, x.2) := by
  have e : negP (Int.fdiv x.1 x.2, 1) = (-Int.fdiv x.1 x.2, 1) := by
    unfold negP
    exact red_lowest (by simp)
  rw [e]
  unfold addP rest
  have := same_red (x.1 * 1 + -Int.fdiv x.1 x.2 * x.2) (x.2 * 1)
  simp only at *
  rw [show x.1 - Int.fdiv x.1 x.2 * x.2 = x.1 * 1 + -Int.fdiv x.1 x.2 * x.2 by rw [Int.neg_mul]; omega]
  rw [show (x.2 : Int) = x.2 * 1 by omega]
  simpa using this
theorem rest_cmp0 {x : Int × Int} (hx : 0 < x.2) : cmpP (addP x (negP (Int.fdiv x.1 x.2, 1))) (0, 1) = cmp3 (rest x) 0 := by
  rw [cmpP_congr (addP_pos hx (negP_pos (x := (_, 1)) Int.one_pos)) (by decide) (z := (rest x, x.2)) (w := (0, 1)) hx (by decide) rest_same rfl]
  unfold cmpP
  simp only [Int.mul_one, Int.zero_mul]
theorem rest_cmp2 {x : Int × Int} (hx : 0 < x.2) : cmpP (addP x (negP (Int.fdiv x.1 x.2, 1))) (1, 2) = cmp3 (2 * rest x) x.2 := by
  rw [cmpP_congr (addP_pos hx (negP_pos (x := (_, 1)) Int.one_pos)) (by decide) (z := (rest x, x.2)) (w := (1, 2)) hx (by decide) rest_same rfl]
  unfold cmpP
  simp only [Int.one_mul, Int.mul_comm (rest x)]

end Go.Proofs.YthhihdihkddakaaGreatDoor.Fra

/- The plain mathematics of decimal texts: their parts, their digits, the text of units with places. -/
namespace Go.Proofs.YthhihdihkddakaaGreatDoor.Num
open Lib (decDigits)

/-- exactly k digits of a number -/
def fixd : Nat → Nat → Bs
  | 0, _ => []
  | k + 1, m => fixd k (m / 10) ++ [UInt8.ofNat (48 + m % 10)]

theorem fixd_all : ∀ (k m : Nat), (fixd k m).all isDig = true
  | 0, _ => rfl
  | k + 1, m => by rw [fixd, List.all_append, fixd_all k, List.all_cons, isDig_ofNat _ (Nat.mod_lt m (by decide : 0 < 10))]; rfl
theorem num_fixd : ∀ (k m : Nat), num (fixd k m) = m % 10 ^ k
  | 0, m => by rw [fixd, Nat.pow_zero, Nat.mod_one]; rfl
  | k + 1, m => by
    rw [fixd, num_snoc, num_fixd k, dv_ofNat _ (Nat.mod_lt m (by decide : 0 < 10)), Nat.pow_succ, Nat.mul_comm (10 ^ k) 10, Nat.mod_mul]
    omega
theorem fixd_zero : ∀ k : Nat, fixd k 0 = List.replicate k 48
  | 0 => rfl
  | k + 1 => by rw [fixd, Nat.zero_div, fixd_zero k, List.replicate_succ']; rfl
/-- a whole part -/
def goodW (l : Bs) : Bool := !l.isEmpty && l.all isDig && (decide (l.length = 1) || decide (l.head? ≠ some 48))
/-- a text by its parts -/
def mk (ng : Bool) (W F : Bs) : Bs := (if ng then [45] else []) ++ (W ++ if F = [] then [] else 46 :: F)

/-- the parts of a text -/
def dotW (l : Bs) : Bs := (cut l).2.takeWhile (· != 46)
def dotT (l : Bs) : Bs := (cut l).2.dropWhile (· != 46)
def dotF (l : Bs) : Bs := (dotT l).tail
def decM (l : Bs) : Nat := num (dotW l ++ dotF l)
def isDec (l : Bs) : Bool := goodW (dotW l) && ((dotT l).isEmpty || (!(dotF l).isEmpty && (dotF l).all isDig)) && (!(cut l).1 || decide (decM l ≠ 0))
/-- the units of a text, with as many places as it has -/
def decU (l : Bs) : Int := if (cut l).1 then -(decM l : Int) else decM l
def decP (l : Bs) : Nat := (dotF l).length

theorem cut_eq (l : Bs) : l = (if (cut l).1 then [45] else []) ++ (cut l).2 := by
  unfold cut
  split
  · next h =>
    match l, h with
    | c :: l, h =>
      have : c = 45 := by simpa using h
      subst this
      rfl
  · rfl

theorem goodW_all {W : Bs} (h : goodW W = true) : W.all isDig = true ∧ W ≠ [] := by
  unfold goodW at h
  simp only [Bool.and_eq_true, Bool.not_eq_true', List.isEmpty_eq_false_iff] at h
  exact ⟨h.1.2, h.1.1⟩

end Go.Proofs.YthhihdihkddakaaGreatDoor.Num

/- The plain mathematics of decimal texts, further: zeros behind, padding, powers of 10, texts with one value. -/
namespace Go.Proofs.YthhihdihkddakaaGreatDoor.Num
open Go.Lib (decDigits)

theorem pow10 (k : Nat) : (0 : Int) < 10 ^ k := Int.pow_pos (by decide)

/-- a power of 10, written -/
theorem digs_pow (k : Nat) : digs (10 ^ k) = 49 :: List.replicate k 48 := by
  have hall : (49 :: List.replicate k (48 : UInt8)).all isDig = true := by
    rw [List.all_cons, ← fixd_zero, fixd_all]
    rfl
  have h := digs_num (l := 49 :: List.replicate k 48) ⟨hall, by simp⟩
  have zn : num (List.replicate k 48) = 0 := by rw [← fixd_zero, num_fixd, Nat.zero_mod]
  rw [num_cons, zn, List.length_replicate, show dv 49 = 1 from rfl, Nat.one_mul, Nat.add_zero] at h
  exact h

end Go.Proofs.YthhihdihkddakaaGreatDoor.Num

/- The plain mathematics of finite numbers: which numbers divide a power of 10. It imports nothing of the program. -/
namespace Go.Proofs.YthhihdihkddakaaGreatDoor.Num

/-- how often k divides d, and what remains -/
def times (k : Nat) : Nat → Nat → Nat × Nat
  | 0, d => (0, d)
  | f + 1, d => if d % k = 0 then ((times k f (d / k)).1 + 1, (times k f (d / k)).2) else (0, d)

theorem times_eq (k : Nat) : ∀ (f d : Nat), d = k ^ (times k f d).1 * (times k f d).2
  | 0, d => by rw [times, Nat.pow_zero, Nat.one_mul]
  | f + 1, d => by
    rw [times]
    by_cases h : d % k = 0
    · rw [if_pos h]
      have ih := times_eq k f (d / k)
      rw [Nat.pow_succ, Nat.mul_comm (k ^ _) k, Nat.mul_assoc, ← ih, Nat.mul_div_cancel' (Nat.dvd_of_mod_eq_zero h)]
    · rw [if_neg h, Nat.pow_zero, Nat.one_mul]
theorem times_pos {k f d : Nat} (h : 0 < d) : 0 < (times k f d).2 := by
  have h1 := times_eq k f d
  apply Nat.pos_of_ne_zero
  intro h2
  rw [h2, Nat.mul_zero] at h1
  omega
end Go.Proofs.YthhihdihkddakaaGreatDoor.Num

/- The plain mathematics of layer 3's laws: rounding, units and finite numbers by values of fractions. -/
namespace Go.Proofs.YthhihdihkddakaaGreatDoor.Fra

theorem red_dvd {k d : Int} (hd : 0 < d) : red (k * d) d = (k, 1) := by
  rw [red_eq (m := k) (e := 1) hd (by decide) (by rw [Int.mul_one])]
  exact red_lowest (by simp)
theorem red_whole {n d : Int} (hd : 0 < d) : (red n d).2 = 1 ↔ d ∣ n := by
  constructor
  · intro h
    have := red_cross (n := n) (d := d)
    rw [h, Int.mul_one] at this
    exact ⟨(red n d).1, this.symm.trans (Int.mul_comm _ _)⟩
  · rintro ⟨k, rfl⟩
    rw [Int.mul_comm, red_dvd hd]
theorem cmpP_zero {x : Int × Int} : cmpP x (0, 1) < 0 ↔ x.1 < 0 := by
  unfold cmpP cmp3
  simp only [Int.mul_one, Int.zero_mul]
  split
  · simp [*]
  · split <;> simp [*]

end Go.Proofs.YthhihdihkddakaaGreatDoor.Fra

/- The plain mathematics of layer 3's program and its reference: what Cut leaves, how a text is put together, the modes, repeated division. -/
namespace Go.Proofs.YthhihdihkddakaaGreatDoor.Num
open Go.Lib (decDigits)

/-- ahead of the first point, and behind it -/
def bef (l : Bs) : Bs := l.takeWhile (· != 46)
def beh (l : Bs) : Bs := (l.dropWhile (· != 46)).tail

theorem bef_eq (l : Bs) : bef l = (if (cut l).1 then [45] else []) ++ dotW l := by
  conv => lhs; rw [cut_eq l]
  unfold bef dotW
  cases (cut l).1
  · simp
  · simp
theorem beh_eq (l : Bs) : beh l = dotF l := by
  conv => lhs; rw [cut_eq l]
  unfold beh dotF dotT
  cases (cut l).1
  · simp
  · simp

theorem num_strip (l : Bs) : num (strip l) = num l := by
  unfold strip
  induction l with
  | nil => rfl
  | cons c r ih =>
    by_cases h : c = 48
    · subst h
      rw [List.dropWhile_cons_of_pos (by rfl), ih, num_cons, show dv 48 = 0 from rfl, Nat.zero_mul, Nat.zero_add]
    · rw [List.dropWhile_cons_of_neg (by simpa using h)]
theorem val_digits {D : Bs} (h : D.all isDig = true) : val D = num D := by
  have hc := cut_of_plain h
  unfold val sneg mag sdig
  rw [hc]
  simp only [h, if_true, num_strip, Bool.false_and, Bool.false_eq_true, if_false]
theorem val_minus {D : Bs} (h : D.all isDig = true) : val (45 :: D) = -(num D : Int) := by
  unfold val sneg mag sdig
  rw [cut_minus]
  simp only [h, if_true, num_strip, Bool.true_and]
  by_cases e : strip D = []
  · have : num D = 0 := by rw [← num_strip, e]; rfl
    simp [e, this]
  · simp [e]

theorem isDec_digits {l : Bs} (h : isDec l = true) : (dotW l ++ dotF l).all isDig = true := by
  unfold isDec at h
  simp only [Bool.and_eq_true, Bool.or_eq_true, Bool.not_eq_true', List.isEmpty_iff, List.isEmpty_eq_false_iff, decide_eq_true_eq] at h
  obtain ⟨⟨h1, h2⟩, h3⟩ := h
  have hF : (dotF l).all isDig = true := by
    rcases h2 with h2 | h2
    · unfold dotF; rw [h2]; rfl
    · exact h2.2
  rw [List.all_append, (goodW_all h1).1, hF]; rfl
/-- the units of a decimal text, as the program reads them -/
theorem val_units {l : Bs} (h : isDec l = true) : val (bef l ++ beh l) = decU l := by
  have hD := isDec_digits h
  rw [bef_eq, beh_eq]
  unfold decU decM
  cases (cut l).1
  · simp only [Bool.false_eq_true, if_false, List.nil_append]
    exact val_digits hD
  · simp only [if_true, List.cons_append, List.nil_append]
    exact val_minus hD
/-! ### Where the first point stands -/
def dot (l : Bs) : Nat := (l.takeWhile (· != 46)).length
theorem dot_le (l : Bs) : dot l ≤ l.length := (List.takeWhile_sublist _).length_le
theorem drop_beh (l : Bs) : l.drop (dot l + 1) = beh l := by
  have h := List.drop_left (l₁ := l.takeWhile (· != 46)) (l₂ := l.dropWhile (· != 46))
  rw [List.takeWhile_append_dropWhile] at h
  rw [← List.drop_drop, show l.drop (dot l) = l.dropWhile (· != 46) from h, List.drop_one]
  rfl
theorem bef_length (l : Bs) : (bef l).length = dot l := rfl
theorem beh_length (l : Bs) : (bef l).length + (beh l).length ≤ l.length := by
  rw [bef_length, ← drop_beh, List.length_drop]
  have := dot_le l
  omega

/-! ### How a text is put together -/
/-! ### Repeated division -/
/-- how often k divides d, and what remains -/
def tm (k d : Nat) : Nat × Nat := times k d d
theorem tm_eq (k d : Nat) : d = k ^ (tm k d).1 * (tm k d).2 := times_eq k d d
theorem tm_pos {k d : Nat} (hd : 0 < d) : 0 < (tm k d).2 := times_pos hd
theorem tm_le {k d : Nat} (hk : 2 ≤ k) : (tm k d).2 ≤ d := by
  have h := tm_eq k d
  have hp : 0 < k ^ (tm k d).1 := Nat.pow_pos (by omega)
  have h2 := Nat.le_mul_of_pos_left (tm k d).2 hp
  omega
/-- it is not often -/
theorem tm_few {k d c : Nat} (hk : 2 ≤ k) (hd : 0 < d) (h : d < 10 ^ c) : (tm k d).1 < 4 * c := by
  have e := tm_eq k d
  have hp := tm_pos (k := k) hd
  have h1 : k ^ (tm k d).1 ≤ d := by
    conv => rhs; rw [e]
    exact Nat.le_mul_of_pos_right _ hp
  have h2 : 2 ^ (tm k d).1 ≤ k ^ (tm k d).1 := Nat.pow_le_pow_left hk _
  have h3 : 10 ^ c ≤ 2 ^ (4 * c) := by
    rw [Nat.pow_mul]
    exact Nat.pow_le_pow_left (by decide) c
  exact (Nat.pow_lt_pow_iff_right (by decide : 1 < 2)).mp (by omega)
end Go.Proofs.YthhihdihkddakaaGreatDoor.Num

/- The plain mathematics of layer 3's modes: when the program goes up. -/
namespace Go.Proofs.YthhihdihkddakaaGreatDoor.Fra

/-- does the mode go up? q: the number rounded down, h: how twice the rest compares with the denominator -/
def upB (m q h : Int) : Bool := decide ((m = 1 ∧ (0 < h ∨ (h = 0 ∧ q % 2 = 1))) ∨ (m = 2 ∧ (0 < h ∨ (h = 0 ∧ 0 ≤ q))) ∨ (m = 3 ∧ q < 0) ∨ (m = 4 ∧ 0 ≤ q) ∨ m = 6)
theorem rndR_up (m q r d : Int) : rndR m q r d = if r = 0 then q else if upB m q (cmp3 (2 * r) d) = true then q + 1 else q := by
  have h1 := cmp3_pos (2 * r) d
  have h2 := cmp3_zero (2 * r) d
  unfold rndR upB
  by_cases h : r = 0
  · rw [if_pos h, if_pos h]
  · rw [if_neg h, if_neg h]
    simp only [decide_eq_true_eq, h1, h2]
theorem rest_fmod {x : Int × Int} : Int.fmod x.1 x.2 = rest x := by
  unfold rest
  rw [Int.fmod_def, Int.mul_comm]
theorem fmod_two (q : Int) : Int.fmod q 2 = q % 2 := Int.fmod_eq_emod_of_nonneg q (by decide)
end Go.Proofs.YthhihdihkddakaaGreatDoor.Fra

/- The program's layer 3: arePlaces, tenTo, isOdd, goesUp: the walks. -/
namespace Go.Proofs.YthhihdihkddakaaGreatDoor
open Go.RowKit Fra

/-- the digits of a power of 10 -/
theorem cS_pow (k : Nat) : cS ((10 : Int) ^ k) = ⟨(49 :: List.replicate k 48).toArray⟩ := by
  unfold cS Num.canon
  have h : ¬ ((10 : Int) ^ k < 0) := by have := Num.pow10 k; omega
  rw [if_neg h, Int.natAbs_pow, show (10 : Int).natAbs = 10 from rfl, Num.digs_pow]
theorem two_fdiv (q : Int) (w : World) (hG : Ground w) {s : ByteArray} (hs : s.size ≤ 4294967295) (hq : vS s = q) :
    Calls Tryz.prog 66 #[.string s, .string ⟨#[50]⟩] w fun e w' => e = .returned (.tuple #[.string (cS (Int.fdiv q 2)), .string (cS (q % 2)), .int .i64 0]) ∧ Below w.heap.size w w' :=
  div_v w hG hs (by decide) hq (show vS ⟨#[50]⟩ = 2 by decide +kernel) (by decide) rfl (fmod_two q)
theorem cS_beq_nil (z : Int) : ((cS z).toList == []) = decide (z = 0) := by
  have e := eq_nil z
  rw [← e]
  cases (cS z).toList <;> rfl

set_option maxHeartbeats 1000000 in
theorem dOdd_any {s : ByteArray} {q : Int} (w : World) (hG : Ground w) (hs : s.size ≤ 4294967295) (hq : vS s = q) :
    Calls Tryz.prog 162 #[.string s] w fun e w' => e = .returned (.bool (decide (q % 2 = 1))) ∧ Below w.heap.size w w' := by
  have hd := two_fdiv q w hG hs hq
  have HB := Lib.hid hd
  clear hd
  by_cases h0 : q % 2 = 0
  · have HZ := Lib.hid (show cS (q % 2) = ⟨#[]⟩ by rw [h0, cS_zero])
    have HD := Lib.hid (show decide (q % 2 = 1) = false from decide_eq_false (by omega))
    clear h0
    go_enter Tryz.func162, Tryz.ntmps162
    go_wp2_with fail
    refine HB.out.mono ?_
    rintro _ w1 ⟨rfl, hB⟩
    rw [HZ.out]
    go_wp2_with fail
    go_ret
    exact ⟨by rw [HD.out]; rfl, hB⟩
  · have HZ := Lib.hid (show cS (q % 2) = ⟨#[49]⟩ by rw [show q % 2 = 1 by omega, cS_one])
    have HD := Lib.hid (show decide (q % 2 = 1) = true from decide_eq_true (by omega))
    clear h0
    go_enter Tryz.func162, Tryz.ntmps162
    go_wp2_with fail
    refine HB.out.mono ?_
    rintro _ w1 ⟨rfl, hB⟩
    rw [HZ.out]
    go_wp2_with fail
    go_ret
    exact ⟨by rw [HD.out]; rfl, hB⟩

end Go.Proofs.YthhihdihkddakaaGreatDoor
