/- integer.quotients, its closure, and Gcd: a range over a function. -/
import Derived.Test.YtldohkfomdcpoaaGreatDoorPower
import Derived.RangeFuncNested
import Derived.RangeFuncBound
import Derived.RangeFuncCalls
import Derived.RangeFuncLeaves
import Derived.Shelf.Abstract
import Derived.Shelf.RegionOpen
import Derived.WalkKit
import Derived.OwnWalkIn
import Derived.TacticsInMore
import Derived.LoopNIn
import Derived.LoopIn
namespace Go.Proofs.YtldohkfomdcpoaaGreatDoor
open Go.RowKit Go.Shelf

attribute [local go_sem] Oper.semAt_some

/-- whatever slices of numbers lay lie as they lay -/
def Kept (A B : World) : Prop := ∀ b o cap zs, Sl A b o cap zs → Sl B b o cap zs

theorem size_le_of_lt {xs ys : List Int} (cx : Num.Can xs) (cy : Num.Can ys) (h : Num.gval xs < Num.gval ys) : xs.length ≤ ys.length := by
  rcases Nat.lt_or_ge ys.length xs.length with h' | h'
  · have := Num.gval_lt_of_length cy cx h'; omega
  · exact h'

/-- the numbers that a slice holds -/
def slv (w : World) : Value → List Int
  | .slice (some a) len _ => (List.range len).map fun i => match w.cell? ⟨a.block, a.off + i, none⟩ with
    | some (.int .i64 z) => z
    | _ => 0
  | _ => []
theorem Sl.slv {w : World} {b o cap : Nat} {zs : List Int} (h : Sl w b o cap zs) (c : Nat) : slv w (.slice (some ⟨b, o, none⟩) zs.length c) = zs := by
  unfold YtldohkfomdcpoaaGreatDoor.slv
  apply List.ext_getElem
  · simp
  · intro i h1 h2
    have := h.cell i h2
    simp only [List.getElem_map, List.getElem_range, this]
    simp [h2]

theorem gcd_step {A D Q R : Int} (h : A = Q * D + R) : Int.gcd D R = Int.gcd A D := by
  rw [h, Int.gcd_comm (Q * D + R) D, Int.add_comm, Int.gcd_add_mul_right_right]

set_option maxRecDepth 100000 in
set_option maxHeartbeats 2000000 in
/-- the closure: every step of Euclid's algorithm is yielded; the last dividend is the greatest common divisor -/
theorem quot1_in (n : Nat) (hn : 1 ≤ n) (l bx by' : Nat) (J : Value → Value → World → Prop)
    (hJ : ∀ u v A A', J u v A → Below A.heap.size A A' → J u v A')
    (hY : ∀ au lu cu av lv cv aq lq cq ar lr cr W1, J (.slice au lu cu) (.slice av lv cv) W1 → YieldAt Fence.wide (n - 1) Tryz.prog l #[.slice aq lq cq, .slice ar lr cr] W1 fun e W' =>
      e = .returned (.bool true) ∧ J (.slice av lv cv) (.slice ar lr cr) W' ∧ Kept W1 W')
    (b o cap ob oy capy : Nat) (xs ys : List Int) (L : Nat) (hL : L ≤ 999999990) (hxl : xs.length ≤ L) (hyl : ys.length ≤ L) (cx : Num.Can xs) (cy : Num.Can ys)
    (W : World) (hbx : W.cell? ⟨bx, 0, none⟩ = some (.slice (some ⟨b, o, none⟩) xs.length cap)) (hby : W.cell? ⟨by', 0, none⟩ = some (.slice (some ⟨ob, oy, none⟩) ys.length capy))
    (hx : Sl W b o cap xs) (hy : Sl W ob oy capy ys) (h0 : J (.slice (some ⟨b, o, none⟩) xs.length cap) (.slice (some ⟨ob, oy, none⟩) ys.length capy) W) :
    CallsIn Fence.wide n Tryz.prog 116 #[.func (.yield l) #[] #[], .pointer (some ⟨bx, 0, none⟩), .pointer (some ⟨by', 0, none⟩)] W fun e W' => (∃ v, e = .returned v) ∧
      ∃ zs b o cap v, Num.Can zs ∧ Num.gval zs = Int.gcd (Num.gval xs) (Num.gval ys) ∧ zs.length ≤ L ∧ Sl W' b o cap zs ∧ J (.slice (some ⟨b, o, none⟩) zs.length cap) v W' := by
  refine callsIn_of_wp Tryz.func116 rfl trivial ?_ rfl
  simp only [Tryz.ntmps116, List.size_toArray, List.length_cons, List.length_nil, Nat.reduceAdd, Nat.reduceSub, Array.replicate_succ, Array.replicate_zero, List.push_toArray, List.append_toArray, List.nil_append, List.cons_append]
  have hmix : Tryz.prog.follows .mixedOrders = true := by kernel_rfl
  gi_wp2
  gi_big_quiet_th_o (fail)
  obtain ⟨W0, hW0⟩ : ∃ W0, W0 = W.drewN nq := ⟨_, rfl⟩
  have hx0 : Sl W0 b o cap xs := by rw [hW0]; exact hx.drewN nq
  have hy0 : Sl W0 ob oy capy ys := by rw [hW0]; exact hy.drewN nq
  have hj0 := hJ _ _ W W0 h0 (by rw [hW0]; exact below_drewN (Below.refl _ _) nq)
  have HX := Lib.hid hx0
  have HY := Lib.hid hy0
  have HJ0 := Lib.hid hj0
  rw [← hW0]
  clear hW0 hx hy h0 hx0 hy0 hj0 hbx hby
  gi_wp2
  gi_loopw [4, 5] (fun u v wr => ∃ b o cap ob oy capy zs ts, u = .slice (some ⟨b, o, none⟩) zs.length cap ∧ v = .slice (some ⟨ob, oy, none⟩) ts.length capy ∧ zs.length ≤ L ∧ ts.length ≤ L ∧ Num.Can zs ∧ Num.Can ts ∧ Sl wr b o cap zs ∧ Sl wr ob oy capy ts ∧
      Int.gcd (Num.gval zs) (Num.gval ts) = Int.gcd (Num.gval xs) (Num.gval ys) ∧ J u v wr)
    (fun _ v wr => (Num.gval (slv wr v)).toNat)
  case atStart => exact ⟨b, o, cap, ob, oy, capy, xs, ys, rfl, rfl, hxl, hyl, cx, cy, HX.out, HY.out, rfl, HJ0.out⟩
  case round =>
    clear HX HY HJ0
    obtain ⟨b, o, cap, ob, oy, capy, zs, ts, rfl, rfl, hzl, htl, cz, ct, hz, ht, hg, hj⟩ := hrel
    by_cases h0 : ts.length = 0
    · obtain rfl : ts = [] := List.eq_nil_of_length_eq_zero h0
      clear h0
      have HZ := Lib.hid hz
      have HT := Lib.hid ht
      have HG := Lib.hid hg
      have HJ := Lib.hid hj
      clear hz ht hg hj
      gi_wp2
      go_end0
      refine ⟨⟨_, rfl⟩, zs, b, o, cap, _, cz, ?_, hzl, HZ.out, HJ.out⟩
      rw [← HG.out]
      have := Num.gval_nonneg cz.1
      simp [Num.gval, Int.gcd]
      omega
    · have hlen : 0 < ts.length := by omega
      have HZ := Lib.hid hz
      have HT := Lib.hid ht
      have HG := Lib.hid hg
      have HJ := Lib.hid hj
      clear hz ht hg hj
      gi_wp2_with fail
      refine ⟨trivial, (callsIn_wide.2 (divide_any wr b o cap ob oy capy _ _ zs ts rfl rfl HZ.out HT.out cz ct (by omega) (by omega))).mono ?_⟩
      rintro e w1 ⟨qs, rs, qa, qcap, rb, ro, rcap, rfl, hqc, hrc, hdv, hlt, -, hrs, -, -, hB1⟩
      have hrt := size_le_of_lt hrc ct hlt
      have ht1 : Sl w1 ob oy capy ts := HT.out.below hB1 HT.out.lt
      have hj1 := hJ _ _ _ _ HJ.out hB1
      have hg1 : Int.gcd (Num.gval ts) (Num.gval rs) = Int.gcd (Num.gval xs) (Num.gval ys) := by rw [gcd_step hdv, HG.out]
      have hr0 := Num.gval_nonneg hrc.1
      have hme : (Num.gval (slv wr (.slice (some ⟨ob, oy, none⟩) ts.length capy))).toNat = (Num.gval ts).toNat := by rw [HT.out.slv]
      have HME := Lib.hid hme
      have HLT := Lib.hid hlt
      have HR0 := Lib.hid hr0
      have HG1 := Lib.hid hg1
      have HT1 := Lib.hid ht1
      have HRS := Lib.hid hrs
      have hYY := hY _ _ _ _ _ _ qa qs.length qcap (some ⟨rb, ro, none⟩) rs.length rcap w1 hj1
      clear hme hlt hr0 hg1 ht1 hrs hj1 hdv hB1 HJ HG HT HZ
      obtain ⟨fn, tmps, assign, body, hy, hR⟩ := hYY
      gi_wp2_with fail
      refine hR.mono ?_
      rintro e w2 ⟨rfl, hj2, hk2⟩
      have HJ2 := Lib.hid hj2
      have HK2 := Lib.hid hk2
      clear hj2 hk2 hR hy
      gi_wp2_with fail
      go_roundw
      case rel => exact ⟨ob, oy, capy, rb, ro, rcap, ts, rs, rfl, rfl, htl, by omega, ct, hrc, HK2.out _ _ _ _ HT1.out, HK2.out _ _ _ _ HRS.out, HG1.out, HJ2.out⟩
      case measure =>
        rw [HME.out, (HK2.out _ _ _ _ HRS.out).slv]
        have := HLT.out
        have := HR0.out
        omega

set_option maxRecDepth 100000 in
set_option maxHeartbeats 2000000 in
theorem quotients_in (n : Nat) (b o cap ob oy capy lx ly : Nat) (w : World) :
    CallsIn Fence.wide n Tryz.prog 92 #[.slice (some ⟨b, o, none⟩) lx cap, .slice (some ⟨ob, oy, none⟩) ly capy] w fun e w' =>
      e = .returned (.func (.func 116) #[] #[.pointer (some ⟨w.heap.size, 0, none⟩), .pointer (some ⟨w.heap.size + 1, 0, none⟩)]) ∧
      w' = (w.alloc (.cells #[.slice (some ⟨b, o, none⟩) lx cap] 80)).alloc (.cells #[.slice (some ⟨ob, oy, none⟩) ly capy] 80) := by
  refine callsIn_of_wp Tryz.func92 rfl trivial ?_ rfl
  simp only [Tryz.ntmps92, List.size_toArray, List.length_cons, List.length_nil, Nat.reduceAdd, Nat.reduceSub, Array.replicate_succ, Array.replicate_zero, List.push_toArray, List.append_toArray, List.nil_append, List.cons_append]
  gi_wp2
  go_ret
  exact ⟨rfl, rfl⟩

theorem Kept.trans {A B C : World} (h : Kept A B) (k : Kept B C) : Kept A C := fun _ _ _ _ hs => k _ _ _ _ (h _ _ _ _ hs)
/-- a turn of a block that holds no cells -/
theorem kept_putObj {W : World} {l : Nat} {o : Obj} (hl : W.heap[l]? = some o) (ho : o.isCells = false) (o' : Obj) : Kept W (W.putObj l o') := fun b st cap zs hs =>
  ⟨by have := (grownBy_putObj' W l o').size; exact Nat.lt_of_lt_of_le hs.lt this, hs.le, hs.max, fun i hi => by
    have hc := hs.cell i hi
    have hne : b ≠ l := by
      rintro rfl
      obtain ⟨o2, h2, h3⟩ := cells_of_cell hc
      simp only at h2
      rw [hl] at h2; cases h2; rw [ho] at h3; cases h3
    exact (World.cell?_of_block (w := W) (a := ⟨b, st + i, none⟩) (World.putObj_heap_other hne)).trans hc⟩
/-- a store into a box that holds no number -/
theorem kept_box {W : World} {B : Nat} {v : Value} (h : W.cell? ⟨B, 0, none⟩ = some v) (hb : ∃ t, W.heap[B]? = some (.cells #[v] t (0, 0))) (hv : ∀ z, v ≠ .int .i64 z) (u : Value) : Kept W (W.setCell ⟨B, 0, none⟩ u) := fun b st cap zs hs =>
  ⟨by have := (KeepsWalks.setCell W ⟨B, 0, none⟩ u).size; exact Nat.lt_of_lt_of_le hs.lt this, hs.le, hs.max, fun i hi => by
    have hc := hs.cell i hi
    have hne : b ≠ B := by
      rintro rfl
      obtain ⟨t, hb⟩ := hb
      unfold World.cell? at hc
      simp only [hb] at hc
      rcases Nat.eq_zero_or_pos (st + i) with h0 | h0
      · rw [h0] at hc
        simp at hc
        exact hv _ hc
      · simp [Array.getElem?_eq_none (show (#[v] : Array Value).size ≤ st + i by simp; omega)] at hc
    exact (World.cell?_of_block (w := W) (a := ⟨b, st + i, none⟩) (Below.heap_setCell W _ u b hne)).trans hc⟩

set_option maxHeartbeats 1000000 in
/-- a loop over the steps of Euclid's algorithm: I is the caller's own, at dividend and divisor -/
theorem wpIn_euclid {n : Nat} (hn : 3 ≤ n) {g : Operand} {ps : Array Tmp} {assign body : Code} {Q : Exit → Act → World → Prop} {a : Act} {w : World} {bx by' : Nat}
    (hg : a.eval g = .func (.func 116) #[] #[.pointer (some ⟨bx, 0, none⟩), .pointer (some ⟨by', 0, none⟩)]) (hps : ps.size = 2)
    (b o cap ob oy capy : Nat) (xs ys : List Int) (L : Nat) (hL : L ≤ 999999990) (hxl : xs.length ≤ L) (hyl : ys.length ≤ L) (cx : Num.Can xs) (cy : Num.Can ys)
    (hbx : Boxed w bx 80 (.slice (some ⟨b, o, none⟩) xs.length cap)) (hby : Boxed w by' 80 (.slice (some ⟨ob, oy, none⟩) ys.length capy))
    (hx : Sl w b o cap xs) (hy : Sl w ob oy capy ys)
    (I : Value → Value → World → Prop)
    (hI : ∀ u v A A' row, I u v A → A.grownBy A' row → (∀ r, row = some r → w.heap.size ≤ r) → I u v A')
    (h0 : I (.slice (some ⟨b, o, none⟩) xs.length cap) (.slice (some ⟨ob, oy, none⟩) ys.length capy) w)
    (a₁ : Value → Value → Act)
    (hassign : ∀ (l : Nat) (q r : Value) (W : World) (K : Act → World → Prop), K (a₁ q r) W →
      assign.wpIn (Fence.wide.inRound l) (n - 1 - 1) Tryz.prog (Exit.then K (fun _ _ _ => False)) { tmps := (ps.zip #[q, r]).foldl (fun t (p, v) => t.setIfInBounds p v) a.tmps, defers := [] } W)
    (hbody : ∀ (l : Nat) au lu cu av lv cv aq lq cq ar lr cr (W : World), I (.slice au lu cu) (.slice av lv cv) W →
      body.wpIn (Fence.wide.inRound l) (n - 1 - 1) Tryz.prog (fun e _ W' => e = .normal ∧ I (.slice av lv cv) (.slice ar lr cr) W' ∧ Kept W W' ∧ ∀ k, w.heap.size ≤ k → k < W.heap.size → W'.heap[k]? = W.heap[k]?)
        (a₁ (.slice aq lq cq) (.slice ar lr cr)) W)
    (hdone : ∀ (D : Nat) zs b o cap v (W : World), w.heap.size ≤ D → Num.Can zs → Num.gval zs = Int.gcd (Num.gval xs) (Num.gval ys) → zs.length ≤ L → Sl W b o cap zs → I (.slice (some ⟨b, o, none⟩) zs.length cap) v W →
      W.heap[D]? = some (.deferred (some [])) → Q .normal { a with defers := { target := .collected D, args := #[] } :: a.defers } W) :
    (Code.rangeFunc g ps assign body).wpIn Fence.wide n Tryz.prog Q a w := by
  refine wpIn_rangeFunc ?_
  intro fn hfn
  obtain ⟨rec, hrec⟩ : ∃ rec : LoopState → Option Code → Loop, rec = fun st pe => { state := st, pending := pe, fn, tmps := a.tmps, params := ps, assign, body, defers := w.heap.size } := ⟨_, rfl⟩
  obtain ⟨W1, hW1⟩ : ∃ W1, (w.alloc (.deferred (some []))).alloc (.loop (rec .ready none)) = W1 := ⟨_, rfl⟩
  have hL1 : W1.heap[w.heap.size + 1]? = some (.loop (rec .ready none)) := by
    rw [← hW1]; have := World.alloc_heap_new (w.alloc (.deferred (some []))) (.loop (rec .ready none)); rwa [World.size_alloc] at this
  have hK1 : W1.heap[w.heap.size]? = some (.deferred (some [])) := by
    rw [← hW1]; exact (Below.heap_alloc _ _ _ (by simp)).trans (World.alloc_heap_new w _)
  have hB1 : Below w.heap.size w W1 := by
    rw [← hW1]; exact ((Below.refl _ w).alloc (Nat.le_refl _) _).alloc (by simp) _
  refine ⟨w.heap.size + 1, [{ target := .collected w.heap.size, args := #[] }], W1, { target := .fn (.func 116) #[.pointer (some ⟨bx, 0, none⟩), .pointer (some ⟨by', 0, none⟩)], args := #[.func (.yield (w.heap.size + 1)) #[] #[]] }, W1, 116,
    #[.func (.yield (w.heap.size + 1)) #[] #[], .pointer (some ⟨bx, 0, none⟩), .pointer (some ⟨by', 0, none⟩)], W1, ?_, ?_, fun _ _ => trivial, ?_, fun _ => by omega, ?_⟩
  · rw [← hW1, hrec]; exact run_enterLoop_outer _ _ _ _ _
  · simp only [resolve, hg]
    simp [go_sem]
  · simp [invoke, go_sem]
  · refine (quot1_in (n - 1) (by omega) (w.heap.size + 1) bx by'
      (fun u v W => I u v W ∧ W.heap[w.heap.size + 1]? = some (.loop (rec .ready none)) ∧ W.heap[w.heap.size]? = some (.deferred (some [])) ∧ w.heap.size + 1 < W.heap.size)
      (fun u v A A' hs hb => ⟨hI _ _ _ _ none hs.1 (grown_of_below hb none) (fun r e => by cases e), (hb.block _ hs.2.2.2).trans hs.2.1, (hb.block _ (by have := hs.2.2.2; omega)).trans hs.2.2.1, Nat.lt_of_lt_of_le hs.2.2.2 hb.size⟩)
      ?_ b o cap ob oy capy xs ys L hL hxl hyl cx cy W1 ((hB1.cell (p := ⟨bx, 0, none⟩) hbx.lt).trans hbx.cell) ((hB1.cell (p := ⟨by', 0, none⟩) hby.lt).trans hby.cell) (hx.below hB1 hx.lt) (hy.below hB1 hy.lt)
      ⟨hI _ _ _ _ none h0 (grown_of_below hB1 none) (fun r e => by cases e), hL1, hK1, (Array.getElem?_eq_some_iff.1 hL1).1⟩).mono ?_
    · rintro au lu cu av lv cv aq lq cq ar lr cr W ⟨hi, hl, hk, hlt⟩
      have hy := run_yield (P := Tryz.prog) (args := #[.slice aq lq cq, .slice ar lr cr]) hl (by rw [hrec]; exact hps.symm)
      rw [hrec] at hy
      refine ⟨fn, _, assign, body, hy, roundIn_of_wpIn hfn (hassign _ _ _ W _ ⟨_, run_beginRound hl (by rw [hrec]), ?_⟩)⟩
      have hl2 : (W.putObj (w.heap.size + 1) (.loop { rec .ready none with state := .busy })).heap[w.heap.size + 1]? = some (.loop { rec .ready none with state := .busy }) := World.putObj_heap_same hlt
      have hk2 : (W.putObj (w.heap.size + 1) (.loop { rec .ready none with state := .busy })).heap[w.heap.size]? = some (.deferred (some [])) := (World.putObj_heap_other (by omega)).trans hk
      have hs2 : w.heap.size + 1 < (W.putObj (w.heap.size + 1) (.loop { rec .ready none with state := .busy })).heap.size := (Array.getElem?_eq_some_iff.1 hl2).1
      have hi2 := hI _ _ _ _ (some (w.heap.size + 1)) hi (grownBy_putObj' W (w.heap.size + 1) (.loop { rec .ready none with state := .busy })) (fun r e => by cases e; omega)
      have hkp := kept_putObj hl rfl (.loop { rec .ready none with state := .busy })
      refine wpIn_mono (hbody _ au lu cu av lv cv aq lq cq ar lr cr _ hi2) ?_
      rintro e a3 W3 ⟨rfl, hi3, hkp3, hk3⟩
      have hl3 := (hk3 (w.heap.size + 1) (by omega) hs2).trans hl2
      have hd3 := (hk3 w.heap.size (Nat.le_refl _) (Nat.lt_of_succ_lt hs2)).trans hk2
      have hlt3 := (Array.getElem?_eq_some_iff.1 hl3).1
      have her := run_endRound (P := Tryz.prog) none hl3
      refine ⟨_, _, her, rfl, ⟨hI _ _ _ _ (some (w.heap.size + 1)) hi3 (grownBy_putObj' W3 _ _) (fun r e => by cases e; omega), ?_, (World.putObj_heap_other (by omega)).trans hd3, ?_⟩, (hkp.trans hkp3).trans (kept_putObj hl3 rfl _)⟩
      · rw [World.putObj_heap_same hlt3, hrec]; rfl
      · exact Nat.lt_of_lt_of_le hlt3 (grownBy_putObj' W3 _ _).size
    · rintro e W2 ⟨⟨v, rfl⟩, zs, b', o', cap', v', cz, hz, hzl, hsz, hi, hl, hk, hlt⟩
      have hel := run_endLoop (P := Tryz.prog) hl (by rw [hrec]; simp)
      rw [hrec] at hel
      refine ⟨none, _, hel, ?_⟩
      refine hdone w.heap.size zs b' o' cap' v' _ (Nat.le_refl _) cz hz hzl (kept_putObj hl rfl _ _ _ _ _ hsz) (hI _ _ _ _ (some (w.heap.size + 1)) hi (grownBy_putObj' W2 _ _) (fun r e => by cases e; omega)) ((World.putObj_heap_other (by omega)).trans hk)

set_option maxRecDepth 100000 in
set_option maxHeartbeats 4000000 in
theorem gcd_in (n : Nat) (hn : 3 ≤ n) (a b : ByteArray) (w : World) (hG : Ground w) (ha : a.size ≤ 4294967296) (hb : b.size ≤ 4294967296) :
    CallsIn Fence.wide n Tryz.prog 63 #[.string a, .string b] w (StrPost w (Int.gcd (vS a) (vS b))) := by
  have h1 : 1 ≤ n := by omega
  have hmix : Tryz.prog.follows .mixedOrders = true := by kernel_rfl
  refine callsIn_of_wp_marks Tryz.func63 rfl trivial ?_ rfl
  simp only [Tryz.ntmps63, List.size_toArray, List.length_cons, List.length_nil, Nat.reduceAdd, Nat.reduceSub, Array.replicate_succ, Array.replicate_zero, List.push_toArray, List.append_toArray, List.nil_append, List.cons_append]
  gi_wp2_with fail
  refine ⟨trivial, (callsIn_wide.2 (read_any a w ha)).mono ?_⟩
  rintro e w1 ⟨bx, cx, rfl, hsx, hbx, hB1⟩
  gi_wp2_with fail
  obtain ⟨W1, hW1⟩ : ∃ W1, W1 = w1.alloc (.cells #[.slice (some ⟨bx, 0, none⟩) (gS a).length cx] 80) := ⟨_, rfl⟩
  obtain ⟨X, hX⟩ : ∃ X, X = w1.heap.size := ⟨_, rfl⟩
  have hbX : Boxed W1 X 80 (.slice (some ⟨bx, 0, none⟩) (gS a).length cx) := by rw [hW1, hX]; exact Boxed.new _ _ _
  have hBW : Below w.heap.size w W1 := by rw [hW1]; exact hB1.alloc hB1.size _
  have hs1 : Sl W1 bx 0 cx (gS a) := by rw [hW1]; exact hsx.alloc _
  have hX0 : w.heap.size ≤ X := by rw [hX]; exact hB1.size
  rw [← hW1, ← hX]
  clear hW1 hX hB1 hsx
  refine ⟨trivial, (callsIn_wide.2 (read_any b W1 hb)).mono ?_⟩
  rintro e w2 ⟨bY, cy, rfl, hsy, hby, hB2⟩
  have hs2 := hs1.below hB2 hs1.lt
  have hbX2 : Boxed w2 X 80 (.slice (some ⟨bx, 0, none⟩) (gS a).length cx) := (hB2.block X hbX.lt).trans hbX
  have hBW2 := hBW.trans (hB2.mono hBW.size)
  have hXX : X < w2.heap.size := hbX2.lt
  clear hs1 hbX hBW hB2 hby W1
  have hbX3 := hbX2.alloc (.cells #[.slice (some ⟨bY, 0, none⟩) (gS b).length cy] 80)
  have hbY3 := Boxed.new w2 80 (.slice (some ⟨bY, 0, none⟩) (gS b).length cy)
  have hcX := hbX3.cell
  have hcY := hbY3.cell
  gi_wp2_with fail
  have hs3 := hs2.alloc (.cells #[.slice (some ⟨bY, 0, none⟩) (gS b).length cy] 80)
  have hy3 := hsy.alloc (.cells #[.slice (some ⟨bY, 0, none⟩) (gS b).length cy] 80)
  have hBW3 : Below w.heap.size w (w2.alloc (.cells #[.slice (some ⟨bY, 0, none⟩) (gS b).length cy] 80)) := hBW2.alloc hBW2.size _
  have hY0 := hBW2.size
  clear hcX hcY hs2 hsy hBW2 hbX2
  revert hbX3 hbY3 hs3 hy3 hBW3 hXX hY0
  generalize w2.alloc (.cells #[.slice (some ⟨bY, 0, none⟩) (gS b).length cy] 80) = W2
  generalize w2.heap.size = Y
  intro hXX hbX3 hbY3 hs3 hy3 hBW3 hY0
  refine ⟨trivial, (quotients_in (n - 1) bx 0 cx bY 0 cy (gS a).length (gS b).length W2).mono ?_⟩
  rintro e w3 ⟨rfl, rfl⟩
  have hbX4 := (hbX3.alloc (.cells #[.slice (some ⟨bx, 0, none⟩) (gS a).length cx] 80)).alloc (.cells #[.slice (some ⟨bY, 0, none⟩) (gS b).length cy] 80)
  have hbY4 := (hbY3.alloc (.cells #[.slice (some ⟨bx, 0, none⟩) (gS a).length cx] 80)).alloc (.cells #[.slice (some ⟨bY, 0, none⟩) (gS b).length cy] 80)
  have hs4 := (hs3.alloc (.cells #[.slice (some ⟨bx, 0, none⟩) (gS a).length cx] 80)).alloc (.cells #[.slice (some ⟨bY, 0, none⟩) (gS b).length cy] 80)
  have hy4 := (hy3.alloc (.cells #[.slice (some ⟨bx, 0, none⟩) (gS a).length cx] 80)).alloc (.cells #[.slice (some ⟨bY, 0, none⟩) (gS b).length cy] 80)
  have hp4 := (Boxed.new W2 80 (.slice (some ⟨bx, 0, none⟩) (gS a).length cx)).alloc (.cells #[.slice (some ⟨bY, 0, none⟩) (gS b).length cy] 80)
  have hq4 := Boxed.new (W2.alloc (.cells #[.slice (some ⟨bx, 0, none⟩) (gS a).length cx] 80)) 80 (.slice (some ⟨bY, 0, none⟩) (gS b).length cy)
  rw [World.size_alloc] at hq4
  have hBW4 : Below w.heap.size w ((W2.alloc (.cells #[.slice (some ⟨bx, 0, none⟩) (gS a).length cx] 80)).alloc (.cells #[.slice (some ⟨bY, 0, none⟩) (gS b).length cy] 80)) :=
    (hBW3.alloc hBW3.size _).alloc (by rw [World.size_alloc]; have := hBW3.size; omega) _
  clear hbX3 hbY3 hs3 hy3
  revert hbX4 hbY4 hs4 hy4 hp4 hq4 hBW4
  generalize (W2.alloc (.cells #[.slice (some ⟨bx, 0, none⟩) (gS a).length cx] 80)).alloc (.cells #[.slice (some ⟨bY, 0, none⟩) (gS b).length cy] 80) = W4
  generalize W2.heap.size = PP
  intro hbX4 hbY4 hs4 hy4 hp4 hq4 hBW4
  clear hBW3
  gi_wp2_with fail
  have hla := gS_length a ha
  have hlb := gS_length b hb
  refine wpIn_euclid hn (bx := PP) (by' := PP + 1) rfl rfl bx 0 cx bY 0 cy (gS a) (gS b) 999999990 (Nat.le_refl _) (by omega) (by omega) (gS_can a) (gS_can b) hp4 hq4 hs4 hy4
    (fun u v W => Boxed W X 80 u ∧ Boxed W Y 80 v ∧ Below w.heap.size w W)
    ?hI ⟨hbX4, hbY4, hBW4⟩
    (fun q r => { tmps := #[.string a, .string b, undef, undef, .string ⟨#[]⟩, .bool (Num.sneg a.data.toList), .pointer (some ⟨X, 0, none⟩), .bool (Num.sneg b.data.toList), .pointer (some ⟨Y, 0, none⟩), undef, r,
        .tuple #[.bool (Num.sneg a.data.toList), .slice (some ⟨bx, 0, none⟩) (gS a).length cx], .string a, .tuple #[.bool (Num.sneg a.data.toList), .slice (some ⟨bx, 0, none⟩) (gS a).length cx], .bool (Num.sneg a.data.toList), .slice (some ⟨bx, 0, none⟩) (gS a).length cx,
        .tuple #[.bool (Num.sneg b.data.toList), .slice (some ⟨bY, 0, none⟩) (gS b).length cy], .string b, .tuple #[.bool (Num.sneg b.data.toList), .slice (some ⟨bY, 0, none⟩) (gS b).length cy], .bool (Num.sneg b.data.toList), .slice (some ⟨bY, 0, none⟩) (gS b).length cy,
        .slice (some ⟨bx, 0, none⟩) (gS a).length cx, .slice (some ⟨bY, 0, none⟩) (gS b).length cy, .func (.func 116) #[] #[.pointer (some ⟨PP, 0, none⟩), .pointer (some ⟨PP + 1, 0, none⟩)], q, r, undef, undef, undef, undef], defers := [] }) ?assign ?body ?done
  case hI =>
    rintro u v A A' row ⟨h1, h2, h3⟩ hg hr
    have hX4 := hbX4.lt
    have hY4 := hbY4.lt
    have hw4 := hBW4.size
    exact ⟨h1.kept hg (fun e => by have := hr X e.symm; omega), h2.kept hg (fun e => by have := hr Y e.symm; omega), h3.grown hg h3.size (fun k e => by have := hr k e; omega)⟩
  case assign =>
    intro l q r W K hK
    gi_wp2
    exact hK
  case body =>
    rintro l au lu cu av lv cv aq lq cq ar lr cr W ⟨h1, h2, h3⟩
    have hcY := h2.cell
    have hcX := h1.cell
    have hfX := h1.frozen
    have h2' := h2.other (B' := X) (by omega) (.slice av lv cv)
    have hcY' := h2'.cell
    have hfY' := h2'.frozen
    have HB := Lib.hid h3
    have HX := Lib.hid h1
    have HY := Lib.hid h2
    have HY' := Lib.hid h2'
    clear h1 h2 h3 h2'
    gi_wp2
    have hX4 := hbX4.lt
    have hY4 := hbY4.lt
    exact ⟨⟨(HX.out.set _).other (by omega) _, HY'.out.set _, (HB.out.setCell (p := ⟨X, 0, none⟩) hX0 _).setCell (p := ⟨Y, 0, none⟩) hY0 _⟩,
      (kept_box hcX ⟨_, HX.out⟩ (by simp) _).trans (kept_box hcY' ⟨_, HY'.out⟩ (by simp) _),
      fun k hk _ => (Below.heap_setCell _ _ _ k (by simp only; omega)).trans (Below.heap_setCell _ _ _ k (by simp only; omega))⟩
  case done =>
    rintro D zs b' o' cap' v W hD cz hz hzl hsz ⟨h1, h2, h3⟩ hK
    have hcX := h1.cell
    have HZ := Lib.hid hz
    have HK := Lib.hid hK
    have HD := Lib.hid hD
    have HB := Lib.hid h3
    have HS := Lib.hid hsz
    clear h1 h2 h3 hz hK hD hsz
    gi_wp2_with fail
    refine ⟨trivial, (callsIn_wide.2 (write_any false W (hG.below HB.out) _ cap' zs (fun _ => ⟨b', o', rfl, HS.out⟩) cz (by omega))).mono ?_⟩
    rintro e W5 ⟨rfl, hB5⟩
    gi_wp2_with fail
    have hK5 := (hB5.block D (Array.getElem?_eq_some_iff.1 HK.out).1).trans HK.out
    refine ⟨by simp, .inl ⟨_, _, rfl, run_takeDeferred hK5, ?_⟩⟩
    have hw4 := hBW4.size
    have hw := HB.out.size
    have hDD := HD.out
    refine ⟨_, results_tmp rfl _ _ _, ?_, (HB.out.trans (hB5.mono hw)).grown (grownBy_putObj' W5 D _) (by have := hB5.size; omega) (fun k e => by cases e; omega)⟩
    have hgg : Num.gval zs = Int.gcd (vS a) (vS b) := by rw [HZ.out, gS_val, gS_val]; simp [Int.gcd]
    rw [hgg]; rfl

theorem gcd_any (a b : ByteArray) (w : World) (hG : Ground w) (ha : a.size ≤ 4294967296) (hb : b.size ≤ 4294967296) :
    Calls Tryz.prog 63 #[.string a, .string b] w (StrPost w (Int.gcd (vS a) (vS b))) :=
  callsIn_wide.1 (gcd_in 3 (Nat.le_refl _) a b w hG ha hb)

end Go.Proofs.YtldohkfomdcpoaaGreatDoor
