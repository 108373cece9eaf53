/- integer.quotients, its closure, and Gcd: a range over a function. -/
import Derived.Test.YtahnkmkmoalbhaaGreatDoorZBA
import Derived.Test.YtahnkmkmoalbhaaGreatDoorZBC
import Derived.Deep.CutBlock
import Derived.Deep.DeepCutAuto
import Derived.Laws.Runes
import Derived.LoopIn
import Derived.LoopNIn
import Derived.OwnWalkIn
import Derived.RangeFuncBound
import Derived.RangeFuncCalls
import Derived.RangeFuncLeaves
import Derived.RangeFuncNested
import Derived.Shelf.Abstract
import Derived.Shelf.RegionOpen
import Derived.TacticsInMore
import Derived.WalkKit
namespace Go.Proofs.YtahnkmkmoalbhaaGreatDoor
open Go.RowKit Go.Shelf

attribute [local go_sem] Oper.semAt_some

/-- whatever slices of numbers lay lie as they lay -/
def Kept (A B : World) : Prop := ∀ b o cap zs, Sl A b o cap zs → Sl B b o cap zs

theorem size_le_of_lt {xs ys : List Int} (cx : Num.Can xs) (cy : Num.Can ys) (h : Num.gval xs < Num.gval ys) : xs.length ≤ ys.length := by
  rcases Nat.lt_or_ge ys.length xs.length with h' | h'
  · have := Num.gval_lt_of_length cy cx h'; omega
  · exact h'

/-- the numbers that a slice holds -/
def slv (w : World) : Value → List Int
  | .slice (some a) len _ => (List.range len).map fun i => match w.cell? ⟨a.block, a.off + i, none⟩ with
    | some (.int .i64 z) => z
    | _ => 0
  | _ => []
theorem Sl.slv {w : World} {b o cap : Nat} {zs : List Int} (h : Sl w b o cap zs) (c : Nat) : slv w (.slice (some ⟨b, o, none⟩) zs.length c) = zs := by
  unfold YtahnkmkmoalbhaaGreatDoor.slv
  apply List.ext_getElem
  · simp
  · intro i h1 h2
    have := h.cell i h2
    simp only [List.getElem_map, List.getElem_range, this]
    simp [h2]

theorem gcd_step {A D Q R : Int} (h : A = Q * D + R) : Int.gcd D R = Int.gcd A D := by
  rw [h, Int.gcd_comm (Q * D + R) D, Int.add_comm, Int.gcd_add_mul_right_right]

set_option maxRecDepth 100000 in
set_option maxHeartbeats 2000000 in
/-- the closure: every step of Euclid's algorithm is yielded; the last dividend is the greatest common divisor -/
theorem quot1_in (n : Nat) (hn : 1 ≤ n) (l bx by' : Nat) (J : Value → Value → World → Prop)
    (hJ : ∀ u v A A', J u v A → Below A.heap.size A A' → J u v A')
    (hY : ∀ au lu cu av lv cv aq lq cq ar lr cr W1, J (.slice au lu cu) (.slice av lv cv) W1 → YieldAt Fence.wide (n - 1) Tryz.prog l #[.slice aq lq cq, .slice ar lr cr] W1 fun e W' =>
      e = .returned (.bool true) ∧ J (.slice av lv cv) (.slice ar lr cr) W' ∧ Kept W1 W')
    (b o cap ob oy capy : Nat) (xs ys : List Int) (L : Nat) (hL : L ≤ 999999990) (hxl : xs.length ≤ L) (hyl : ys.length ≤ L) (cx : Num.Can xs) (cy : Num.Can ys)
    (W : World) (hbx : W.cell? ⟨bx, 0, none⟩ = some (.slice (some ⟨b, o, none⟩) xs.length cap)) (hby : W.cell? ⟨by', 0, none⟩ = some (.slice (some ⟨ob, oy, none⟩) ys.length capy))
    (hx : Sl W b o cap xs) (hy : Sl W ob oy capy ys) (h0 : J (.slice (some ⟨b, o, none⟩) xs.length cap) (.slice (some ⟨ob, oy, none⟩) ys.length capy) W) :
    CallsIn Fence.wide n Tryz.prog 195 #[.func (.yield l) #[] #[], .pointer (some ⟨bx, 0, none⟩), .pointer (some ⟨by', 0, none⟩)] W fun e W' => (∃ v, e = .returned v) ∧
      ∃ zs b o cap v, Num.Can zs ∧ Num.gval zs = Int.gcd (Num.gval xs) (Num.gval ys) ∧ zs.length ≤ L ∧ Sl W' b o cap zs ∧ J (.slice (some ⟨b, o, none⟩) zs.length cap) v W' := by
  refine callsIn_of_wp Tryz.func195 rfl trivial ?_ rfl
  simp only [Tryz.ntmps195, List.size_toArray, List.length_cons, List.length_nil, Nat.reduceAdd, Nat.reduceSub, Array.replicate_succ, Array.replicate_zero, List.push_toArray, List.append_toArray, List.nil_append, List.cons_append]
  have hmix : Tryz.prog.follows .mixedOrders = true := by kernel_rfl
  gi_wp2
  gi_big_quiet_th_o (fail)
  obtain ⟨W0, hW0⟩ : ∃ W0, W0 = W.drewN nq := ⟨_, rfl⟩
  have hx0 : Sl W0 b o cap xs := by rw [hW0]; exact hx.drewN nq
  have hy0 : Sl W0 ob oy capy ys := by rw [hW0]; exact hy.drewN nq
  have hj0 := hJ _ _ W W0 h0 (by rw [hW0]; exact below_drewN (Below.refl _ _) nq)
  have HX := Lib.hid hx0
  have HY := Lib.hid hy0
  have HJ0 := Lib.hid hj0
  rw [← hW0]
  clear hW0 hx hy h0 hx0 hy0 hj0 hbx hby
  gi_wp2
  gi_loopw [4, 5] (fun u v wr => ∃ b o cap ob oy capy zs ts, u = .slice (some ⟨b, o, none⟩) zs.length cap ∧ v = .slice (some ⟨ob, oy, none⟩) ts.length capy ∧ zs.length ≤ L ∧ ts.length ≤ L ∧ Num.Can zs ∧ Num.Can ts ∧ Sl wr b o cap zs ∧ Sl wr ob oy capy ts ∧
      Int.gcd (Num.gval zs) (Num.gval ts) = Int.gcd (Num.gval xs) (Num.gval ys) ∧ J u v wr)
    (fun _ v wr => (Num.gval (slv wr v)).toNat)
  case atStart => exact ⟨b, o, cap, ob, oy, capy, xs, ys, rfl, rfl, hxl, hyl, cx, cy, HX.out, HY.out, rfl, HJ0.out⟩
  case round =>
    clear HX HY HJ0
    obtain ⟨b, o, cap, ob, oy, capy, zs, ts, rfl, rfl, hzl, htl, cz, ct, hz, ht, hg, hj⟩ := hrel
    by_cases h0 : ts.length = 0
    · obtain rfl : ts = [] := List.eq_nil_of_length_eq_zero h0
      clear h0
      have HZ := Lib.hid hz
      have HT := Lib.hid ht
      have HG := Lib.hid hg
      have HJ := Lib.hid hj
      clear hz ht hg hj
      gi_wp2
      go_end0
      refine ⟨⟨_, rfl⟩, zs, b, o, cap, _, cz, ?_, hzl, HZ.out, HJ.out⟩
      rw [← HG.out]
      have := Num.gval_nonneg cz.1
      simp [Num.gval, Int.gcd]
      omega
    · have hlen : 0 < ts.length := by omega
      have HZ := Lib.hid hz
      have HT := Lib.hid ht
      have HG := Lib.hid hg
      have HJ := Lib.hid hj
      clear hz ht hg hj
      gi_wp2_with fail
      refine ⟨trivial, (callsIn_wide.2 (divide_any wr b o cap ob oy capy _ _ zs ts rfl rfl HZ.out HT.out cz ct (by omega) (by omega))).mono ?_⟩
      rintro e w1 ⟨qs, rs, qa, qcap, rb, ro, rcap, rfl, hqc, hrc, hdv, hlt, -, hrs, -, -, hB1⟩
      have hrt := size_le_of_lt hrc ct hlt
      have ht1 : Sl w1 ob oy capy ts := HT.out.below hB1 HT.out.lt
      have hj1 := hJ _ _ _ _ HJ.out hB1
      have hg1 : Int.gcd (Num.gval ts) (Num.gval rs) = Int.gcd (Num.gval xs) (Num.gval ys) := by rw [gcd_step hdv, HG.out]
      have hr0 := Num.gval_nonneg hrc.1
      have hme : (Num.gval (slv wr (.slice (some ⟨ob, oy, none⟩) ts.length capy))).toNat = (Num.gval ts).toNat := by rw [HT.out.slv]
      have HME := Lib.hid hme
      have HLT := Lib.hid hlt
      have HR0 := Lib.hid hr0
      have HG1 := Lib.hid hg1
      have HT1 := Lib.hid ht1
      have HRS := Lib.hid hrs
      have hYY := hY _ _ _ _ _ _ qa qs.length qcap (some ⟨rb, ro, none⟩) rs.length rcap w1 hj1
      clear hme hlt hr0 hg1 ht1 hrs hj1 hdv hB1 HJ HG HT HZ
      obtain ⟨fn, tmps, assign, body, hy, hR⟩ := hYY
      gi_wp2_with fail
      refine hR.mono ?_
      rintro e w2 ⟨rfl, hj2, hk2⟩
      have HJ2 := Lib.hid hj2
      have HK2 := Lib.hid hk2
      clear hj2 hk2 hR hy
      gi_wp2_with fail
      go_roundw
      case rel => exact ⟨ob, oy, capy, rb, ro, rcap, ts, rs, rfl, rfl, htl, by omega, ct, hrc, HK2.out _ _ _ _ HT1.out, HK2.out _ _ _ _ HRS.out, HG1.out, HJ2.out⟩
      case measure =>
        rw [HME.out, (HK2.out _ _ _ _ HRS.out).slv]
        have := HLT.out
        have := HR0.out
        omega

set_option maxRecDepth 100000 in
set_option maxHeartbeats 2000000 in
theorem quotients_in (n : Nat) (b o cap ob oy capy lx ly : Nat) (w : World) :
    CallsIn Fence.wide n Tryz.prog 183 #[.slice (some ⟨b, o, none⟩) lx cap, .slice (some ⟨ob, oy, none⟩) ly capy] w fun e w' =>
      e = .returned (.func (.func 195) #[] #[.pointer (some ⟨w.heap.size, 0, none⟩), .pointer (some ⟨w.heap.size + 1, 0, none⟩)]) ∧
      w' = (w.alloc (.cells #[.slice (some ⟨b, o, none⟩) lx cap] 85)).alloc (.cells #[.slice (some ⟨ob, oy, none⟩) ly capy] 85) := by
  refine callsIn_of_wp Tryz.func183 rfl trivial ?_ rfl
  simp only [Tryz.ntmps183, List.size_toArray, List.length_cons, List.length_nil, Nat.reduceAdd, Nat.reduceSub, Array.replicate_succ, Array.replicate_zero, List.push_toArray, List.append_toArray, List.nil_append, List.cons_append]
  gi_wp2
  go_ret
  exact ⟨rfl, rfl⟩

theorem Kept.trans {A B C : World} (h : Kept A B) (k : Kept B C) : Kept A C := fun _ _ _ _ hs => k _ _ _ _ (h _ _ _ _ hs)
/-- a turn of a block that holds no cells -/
theorem kept_putObj {W : World} {l : Nat} {o : Obj} (hl : W.heap[l]? = some o) (ho : o.isCells = false) (o' : Obj) : Kept W (W.putObj l o') := fun b st cap zs hs =>
  ⟨by have := (grownBy_putObj' W l o').size; exact Nat.lt_of_lt_of_le hs.lt this, hs.le, hs.max, fun i hi => by
    have hc := hs.cell i hi
    have hne : b ≠ l := by
      rintro rfl
      obtain ⟨o2, h2, h3⟩ := cells_of_cell hc
      simp only at h2
      rw [hl] at h2; cases h2; rw [ho] at h3; cases h3
    exact (World.cell?_of_block (w := W) (a := ⟨b, st + i, none⟩) (World.putObj_heap_other hne)).trans hc⟩
/-- a store into a box that holds no number -/
theorem kept_box {W : World} {B : Nat} {v : Value} (h : W.cell? ⟨B, 0, none⟩ = some v) (hb : ∃ t, W.heap[B]? = some (.cells #[v] t (0, 0))) (hv : ∀ z, v ≠ .int .i64 z) (u : Value) : Kept W (W.setCell ⟨B, 0, none⟩ u) := fun b st cap zs hs =>
  ⟨by have := (KeepsWalks.setCell W ⟨B, 0, none⟩ u).size; exact Nat.lt_of_lt_of_le hs.lt this, hs.le, hs.max, fun i hi => by
    have hc := hs.cell i hi
    have hne : b ≠ B := by
      rintro rfl
      obtain ⟨t, hb⟩ := hb
      unfold World.cell? at hc
      simp only [hb] at hc
      rcases Nat.eq_zero_or_pos (st + i) with h0 | h0
      · rw [h0] at hc
        simp at hc
        exact hv _ hc
      · simp [Array.getElem?_eq_none (show (#[v] : Array Value).size ≤ st + i by simp; omega)] at hc
    exact (World.cell?_of_block (w := W) (a := ⟨b, st + i, none⟩) (Below.heap_setCell W _ u b hne)).trans hc⟩

set_option maxHeartbeats 1000000 in
/-- a loop over the steps of Euclid's algorithm: I is the caller's own, at dividend and divisor -/
theorem wpIn_euclid {n : Nat} (hn : 3 ≤ n) {g : Operand} {ps : Array Tmp} {assign body : Code} {Q : Exit → Act → World → Prop} {a : Act} {w : World} {bx by' : Nat}
    (hg : a.eval g = .func (.func 195) #[] #[.pointer (some ⟨bx, 0, none⟩), .pointer (some ⟨by', 0, none⟩)]) (hps : ps.size = 2)
    (b o cap ob oy capy : Nat) (xs ys : List Int) (L : Nat) (hL : L ≤ 999999990) (hxl : xs.length ≤ L) (hyl : ys.length ≤ L) (cx : Num.Can xs) (cy : Num.Can ys)
    (hbx : Boxed w bx 85 (.slice (some ⟨b, o, none⟩) xs.length cap)) (hby : Boxed w by' 85 (.slice (some ⟨ob, oy, none⟩) ys.length capy))
    (hx : Sl w b o cap xs) (hy : Sl w ob oy capy ys)
    (I : Value → Value → World → Prop)
    (hI : ∀ u v A A' row, I u v A → A.grownBy A' row → (∀ r, row = some r → w.heap.size ≤ r) → I u v A')
    (h0 : I (.slice (some ⟨b, o, none⟩) xs.length cap) (.slice (some ⟨ob, oy, none⟩) ys.length capy) w)
    (a₁ : Value → Value → Act)
    (hassign : ∀ (l : Nat) (q r : Value) (W : World) (K : Act → World → Prop), K (a₁ q r) W →
      assign.wpIn (Fence.wide.inRound l) (n - 1 - 1) Tryz.prog (Exit.then K (fun _ _ _ => False)) { tmps := (ps.zip #[q, r]).foldl (fun t (p, v) => t.setIfInBounds p v) a.tmps, defers := [] } W)
    (hbody : ∀ (l : Nat) au lu cu av lv cv aq lq cq ar lr cr (W : World), I (.slice au lu cu) (.slice av lv cv) W →
      body.wpIn (Fence.wide.inRound l) (n - 1 - 1) Tryz.prog (fun e _ W' => e = .normal ∧ I (.slice av lv cv) (.slice ar lr cr) W' ∧ Kept W W' ∧ ∀ k, w.heap.size ≤ k → k < W.heap.size → W'.heap[k]? = W.heap[k]?)
        (a₁ (.slice aq lq cq) (.slice ar lr cr)) W)
    (hdone : ∀ (D : Nat) zs b o cap v (W : World), w.heap.size ≤ D → Num.Can zs → Num.gval zs = Int.gcd (Num.gval xs) (Num.gval ys) → zs.length ≤ L → Sl W b o cap zs → I (.slice (some ⟨b, o, none⟩) zs.length cap) v W →
      W.heap[D]? = some (.deferred (some [])) → Q .normal { a with defers := { target := .collected D, args := #[] } :: a.defers } W) :
    (Code.rangeFunc g ps assign body).wpIn Fence.wide n Tryz.prog Q a w := by
  refine wpIn_rangeFunc ?_
  intro fn hfn
  obtain ⟨rec, hrec⟩ : ∃ rec : LoopState → Option Code → Loop, rec = fun st pe => { state := st, pending := pe, fn, tmps := a.tmps, params := ps, assign, body, defers := w.heap.size } := ⟨_, rfl⟩
  obtain ⟨W1, hW1⟩ : ∃ W1, (w.alloc (.deferred (some []))).alloc (.loop (rec .ready none)) = W1 := ⟨_, rfl⟩
  have hL1 : W1.heap[w.heap.size + 1]? = some (.loop (rec .ready none)) := by
    rw [← hW1]; have := World.alloc_heap_new (w.alloc (.deferred (some []))) (.loop (rec .ready none)); rwa [World.size_alloc] at this
  have hK1 : W1.heap[w.heap.size]? = some (.deferred (some [])) := by
    rw [← hW1]; exact (Below.heap_alloc _ _ _ (by simp)).trans (World.alloc_heap_new w _)
  have hB1 : Below w.heap.size w W1 := by
    rw [← hW1]; exact ((Below.refl _ w).alloc (Nat.le_refl _) _).alloc (by simp) _
  refine ⟨w.heap.size + 1, [{ target := .collected w.heap.size, args := #[] }], W1, { target := .fn (.func 195) #[.pointer (some ⟨bx, 0, none⟩), .pointer (some ⟨by', 0, none⟩)], args := #[.func (.yield (w.heap.size + 1)) #[] #[]] }, W1, 195,
    #[.func (.yield (w.heap.size + 1)) #[] #[], .pointer (some ⟨bx, 0, none⟩), .pointer (some ⟨by', 0, none⟩)], W1, ?_, ?_, fun _ _ => trivial, ?_, fun _ => by omega, ?_⟩
  · rw [← hW1, hrec]; exact run_enterLoop_outer _ _ _ _ _
  · simp only [resolve, hg]
    simp [go_sem]
  · simp [invoke, go_sem]
  · refine (quot1_in (n - 1) (by omega) (w.heap.size + 1) bx by'
      (fun u v W => I u v W ∧ W.heap[w.heap.size + 1]? = some (.loop (rec .ready none)) ∧ W.heap[w.heap.size]? = some (.deferred (some [])) ∧ w.heap.size + 1 < W.heap.size)
      (fun u v A A' hs hb => ⟨hI _ _ _ _ none hs.1 (grown_of_below hb none) (fun r e => by cases e), (hb.block _ hs.2.2.2).trans hs.2.1, (hb.block _ (by have := hs.2.2.2; omega)).trans hs.2.2.1, Nat.lt_of_lt_of_le hs.2.2.2 hb.size⟩)
      ?_ b o cap ob oy capy xs ys L hL hxl hyl cx cy W1 ((hB1.cell (p := ⟨bx, 0, none⟩) hbx.lt).trans hbx.cell) ((hB1.cell (p := ⟨by', 0, none⟩) hby.lt).trans hby.cell) (hx.below hB1 hx.lt) (hy.below hB1 hy.lt)
      ⟨hI _ _ _ _ none h0 (grown_of_below hB1 none) (fun r e => by cases e), hL1, hK1, (Array.getElem?_eq_some_iff.1 hL1).1⟩).mono ?_
    · rintro au lu cu av lv cv aq lq cq ar lr cr W ⟨hi, hl, hk, hlt⟩
      have hy := run_yield (P := Tryz.prog) (args := #[.slice aq lq cq, .slice ar lr cr]) hl (by rw [hrec]; exact hps.symm)
      rw [hrec] at hy
      refine ⟨fn, _, assign, body, hy, roundIn_of_wpIn hfn (hassign _ _ _ W _ ⟨_, run_beginRound hl (by rw [hrec]), ?_⟩)⟩
      have hl2 : (W.putObj (w.heap.size + 1) (.loop { rec .ready none with state := .busy })).heap[w.heap.size + 1]? = some (.loop { rec .ready none with state := .busy }) := World.putObj_heap_same hlt
      have hk2 : (W.putObj (w.heap.size + 1) (.loop { rec .ready none with state := .busy })).heap[w.heap.size]? = some (.deferred (some [])) := (World.putObj_heap_other (by omega)).trans hk
      have hs2 : w.heap.size + 1 < (W.putObj (w.heap.size + 1) (.loop { rec .ready none with state := .busy })).heap.size := (Array.getElem?_eq_some_iff.1 hl2).1
      have hi2 := hI _ _ _ _ (some (w.heap.size + 1)) hi (grownBy_putObj' W (w.heap.size + 1) (.loop { rec .ready none with state := .busy })) (fun r e => by cases e; omega)
      have hkp := kept_putObj hl rfl (.loop { rec .ready none with state := .busy })
      refine wpIn_mono (hbody _ au lu cu av lv cv aq lq cq ar lr cr _ hi2) ?_
      rintro e a3 W3 ⟨rfl, hi3, hkp3, hk3⟩
      have hl3 := (hk3 (w.heap.size + 1) (by omega) hs2).trans hl2
      have hd3 := (hk3 w.heap.size (Nat.le_refl _) (Nat.lt_of_succ_lt hs2)).trans hk2
      have hlt3 := (Array.getElem?_eq_some_iff.1 hl3).1
      have her := run_endRound (P := Tryz.prog) none hl3
      refine ⟨_, _, her, rfl, ⟨hI _ _ _ _ (some (w.heap.size + 1)) hi3 (grownBy_putObj' W3 _ _) (fun r e => by cases e; omega), ?_, (World.putObj_heap_other (by omega)).trans hd3, ?_⟩, (hkp.trans hkp3).trans (kept_putObj hl3 rfl _)⟩
      · rw [World.putObj_heap_same hlt3, hrec]; rfl
      · exact Nat.lt_of_lt_of_le hlt3 (grownBy_putObj' W3 _ _).size
    · rintro e W2 ⟨⟨v, rfl⟩, zs, b', o', cap', v', cz, hz, hzl, hsz, hi, hl, hk, hlt⟩
      have hel := run_endLoop (P := Tryz.prog) hl (by rw [hrec]; simp)
      rw [hrec] at hel
      refine ⟨none, _, hel, ?_⟩
      refine hdone w.heap.size zs b' o' cap' v' _ (Nat.le_refl _) cz hz hzl (kept_putObj hl rfl _ _ _ _ _ hsz) (hI _ _ _ _ (some (w.heap.size + 1)) hi (grownBy_putObj' W2 _ _) (fun r e => by cases e; omega)) ((World.putObj_heap_other (by omega)).trans hk)

set_option maxRecDepth 100000 in
set_option maxHeartbeats 4000000 in
theorem gcd_in (n : Nat) (hn : 3 ≤ n) (a b : ByteArray) (w : World) (hG : Ground w) (ha : a.size ≤ 4294967296) (hb : b.size ≤ 4294967296) :
    CallsIn Fence.wide n Tryz.prog 163 #[.string a, .string b] w (StrPost w (Int.gcd (vS a) (vS b))) := by
  have h1 : 1 ≤ n := by omega
  have hmix : Tryz.prog.follows .mixedOrders = true := by kernel_rfl
  refine callsIn_of_wp_marks Tryz.func163 rfl trivial ?_ rfl
  simp only [Tryz.ntmps163, List.size_toArray, List.length_cons, List.length_nil, Nat.reduceAdd, Nat.reduceSub, Array.replicate_succ, Array.replicate_zero, List.push_toArray, List.append_toArray, List.nil_append, List.cons_append]
  gi_wp2_with fail
  refine ⟨trivial, (callsIn_wide.2 (read_any a w ha)).mono ?_⟩
  rintro e w1 ⟨bx, cx, rfl, hsx, hbx, hB1⟩
  gi_wp2_with fail
  obtain ⟨W1, hW1⟩ : ∃ W1, W1 = w1.alloc (.cells #[.slice (some ⟨bx, 0, none⟩) (gS a).length cx] 85) := ⟨_, rfl⟩
  obtain ⟨X, hX⟩ : ∃ X, X = w1.heap.size := ⟨_, rfl⟩
  have hbX : Boxed W1 X 85 (.slice (some ⟨bx, 0, none⟩) (gS a).length cx) := by rw [hW1, hX]; exact Boxed.new _ _ _
  have hBW : Below w.heap.size w W1 := by rw [hW1]; exact hB1.alloc hB1.size _
  have hs1 : Sl W1 bx 0 cx (gS a) := by rw [hW1]; exact hsx.alloc _
  have hX0 : w.heap.size ≤ X := by rw [hX]; exact hB1.size
  rw [← hW1, ← hX]
  clear hW1 hX hB1 hsx
  refine ⟨trivial, (callsIn_wide.2 (read_any b W1 hb)).mono ?_⟩
  rintro e w2 ⟨bY, cy, rfl, hsy, hby, hB2⟩
  have hs2 := hs1.below hB2 hs1.lt
  have hbX2 : Boxed w2 X 85 (.slice (some ⟨bx, 0, none⟩) (gS a).length cx) := (hB2.block X hbX.lt).trans hbX
  have hBW2 := hBW.trans (hB2.mono hBW.size)
  have hXX : X < w2.heap.size := hbX2.lt
  clear hs1 hbX hBW hB2 hby W1
  have hbX3 := hbX2.alloc (.cells #[.slice (some ⟨bY, 0, none⟩) (gS b).length cy] 85)
  have hbY3 := Boxed.new w2 85 (.slice (some ⟨bY, 0, none⟩) (gS b).length cy)
  have hcX := hbX3.cell
  have hcY := hbY3.cell
  gi_wp2_with fail
  have hs3 := hs2.alloc (.cells #[.slice (some ⟨bY, 0, none⟩) (gS b).length cy] 85)
  have hy3 := hsy.alloc (.cells #[.slice (some ⟨bY, 0, none⟩) (gS b).length cy] 85)
  have hBW3 : Below w.heap.size w (w2.alloc (.cells #[.slice (some ⟨bY, 0, none⟩) (gS b).length cy] 85)) := hBW2.alloc hBW2.size _
  have hY0 := hBW2.size
  clear hcX hcY hs2 hsy hBW2 hbX2
  revert hbX3 hbY3 hs3 hy3 hBW3 hXX hY0
  generalize w2.alloc (.cells #[.slice (some ⟨bY, 0, none⟩) (gS b).length cy] 85) = W2
  generalize w2.heap.size = Y
  intro hXX hbX3 hbY3 hs3 hy3 hBW3 hY0
  refine ⟨trivial, (quotients_in (n - 1) bx 0 cx bY 0 cy (gS a).length (gS b).length W2).mono ?_⟩
  rintro e w3 ⟨rfl, rfl⟩
  have hbX4 := (hbX3.alloc (.cells #[.slice (some ⟨bx, 0, none⟩) (gS a).length cx] 85)).alloc (.cells #[.slice (some ⟨bY, 0, none⟩) (gS b).length cy] 85)
  have hbY4 := (hbY3.alloc (.cells #[.slice (some ⟨bx, 0, none⟩) (gS a).length cx] 85)).alloc (.cells #[.slice (some ⟨bY, 0, none⟩) (gS b).length cy] 85)
  have hs4 := (hs3.alloc (.cells #[.slice (some ⟨bx, 0, none⟩) (gS a).length cx] 85)).alloc (.cells #[.slice (some ⟨bY, 0, none⟩) (gS b).length cy] 85)
  have hy4 := (hy3.alloc (.cells #[.slice (some ⟨bx, 0, none⟩) (gS a).length cx] 85)).alloc (.cells #[.slice (some ⟨bY, 0, none⟩) (gS b).length cy] 85)
  have hp4 := (Boxed.new W2 85 (.slice (some ⟨bx, 0, none⟩) (gS a).length cx)).alloc (.cells #[.slice (some ⟨bY, 0, none⟩) (gS b).length cy] 85)
  have hq4 := Boxed.new (W2.alloc (.cells #[.slice (some ⟨bx, 0, none⟩) (gS a).length cx] 85)) 85 (.slice (some ⟨bY, 0, none⟩) (gS b).length cy)
  rw [World.size_alloc] at hq4
  have hBW4 : Below w.heap.size w ((W2.alloc (.cells #[.slice (some ⟨bx, 0, none⟩) (gS a).length cx] 85)).alloc (.cells #[.slice (some ⟨bY, 0, none⟩) (gS b).length cy] 85)) :=
    (hBW3.alloc hBW3.size _).alloc (by rw [World.size_alloc]; have := hBW3.size; omega) _
  clear hbX3 hbY3 hs3 hy3
  revert hbX4 hbY4 hs4 hy4 hp4 hq4 hBW4
  generalize (W2.alloc (.cells #[.slice (some ⟨bx, 0, none⟩) (gS a).length cx] 85)).alloc (.cells #[.slice (some ⟨bY, 0, none⟩) (gS b).length cy] 85) = W4
  generalize W2.heap.size = PP
  intro hbX4 hbY4 hs4 hy4 hp4 hq4 hBW4
  clear hBW3
  gi_wp2_with fail
  have hla := gS_length a ha
  have hlb := gS_length b hb
  refine wpIn_euclid hn (bx := PP) (by' := PP + 1) rfl rfl bx 0 cx bY 0 cy (gS a) (gS b) 999999990 (Nat.le_refl _) (by omega) (by omega) (gS_can a) (gS_can b) hp4 hq4 hs4 hy4
    (fun u v W => Boxed W X 85 u ∧ Boxed W Y 85 v ∧ Below w.heap.size w W)
    ?hI ⟨hbX4, hbY4, hBW4⟩
    (fun q r => { tmps := #[.string a, .string b, undef, undef, .string ⟨#[]⟩, .bool (Num.sneg a.data.toList), .pointer (some ⟨X, 0, none⟩), .bool (Num.sneg b.data.toList), .pointer (some ⟨Y, 0, none⟩), undef, r,
        .tuple #[.bool (Num.sneg a.data.toList), .slice (some ⟨bx, 0, none⟩) (gS a).length cx], .string a, .tuple #[.bool (Num.sneg a.data.toList), .slice (some ⟨bx, 0, none⟩) (gS a).length cx], .bool (Num.sneg a.data.toList), .slice (some ⟨bx, 0, none⟩) (gS a).length cx,
        .tuple #[.bool (Num.sneg b.data.toList), .slice (some ⟨bY, 0, none⟩) (gS b).length cy], .string b, .tuple #[.bool (Num.sneg b.data.toList), .slice (some ⟨bY, 0, none⟩) (gS b).length cy], .bool (Num.sneg b.data.toList), .slice (some ⟨bY, 0, none⟩) (gS b).length cy,
        .slice (some ⟨bx, 0, none⟩) (gS a).length cx, .slice (some ⟨bY, 0, none⟩) (gS b).length cy, .func (.func 195) #[] #[.pointer (some ⟨PP, 0, none⟩), .pointer (some ⟨PP + 1, 0, none⟩)], q, r, undef, undef, undef, undef], defers := [] }) ?assign ?body ?done
  case hI =>
    rintro u v A A' row ⟨h1, h2, h3⟩ hg hr
    have hX4 := hbX4.lt
    have hY4 := hbY4.lt
    have hw4 := hBW4.size
    exact ⟨h1.kept hg (fun e => by have := hr X e.symm; omega), h2.kept hg (fun e => by have := hr Y e.symm; omega), h3.grown hg h3.size (fun k e => by have := hr k e; omega)⟩
  case assign =>
    intro l q r W K hK
    gi_wp2
    exact hK
  case body =>
    rintro l au lu cu av lv cv aq lq cq ar lr cr W ⟨h1, h2, h3⟩
    have hcY := h2.cell
    have hcX := h1.cell
    have hfX := h1.frozen
    have h2' := h2.other (B' := X) (by omega) (.slice av lv cv)
    have hcY' := h2'.cell
    have hfY' := h2'.frozen
    have HB := Lib.hid h3
    have HX := Lib.hid h1
    have HY := Lib.hid h2
    have HY' := Lib.hid h2'
    clear h1 h2 h3 h2'
    gi_wp2
    have hX4 := hbX4.lt
    have hY4 := hbY4.lt
    exact ⟨⟨(HX.out.set _).other (by omega) _, HY'.out.set _, (HB.out.setCell (p := ⟨X, 0, none⟩) hX0 _).setCell (p := ⟨Y, 0, none⟩) hY0 _⟩,
      (kept_box hcX ⟨_, HX.out⟩ (by simp) _).trans (kept_box hcY' ⟨_, HY'.out⟩ (by simp) _),
      fun k hk _ => (Below.heap_setCell _ _ _ k (by simp only; omega)).trans (Below.heap_setCell _ _ _ k (by simp only; omega))⟩
  case done =>
    rintro D zs b' o' cap' v W hD cz hz hzl hsz ⟨h1, h2, h3⟩ hK
    have hcX := h1.cell
    have HZ := Lib.hid hz
    have HK := Lib.hid hK
    have HD := Lib.hid hD
    have HB := Lib.hid h3
    have HS := Lib.hid hsz
    clear h1 h2 h3 hz hK hD hsz
    gi_wp2_with fail
    refine ⟨trivial, (callsIn_wide.2 (write_any false W (hG.below HB.out) _ cap' zs (fun _ => ⟨b', o', rfl, HS.out⟩) cz (by omega))).mono ?_⟩
    rintro e W5 ⟨rfl, hB5⟩
    gi_wp2_with fail
    have hK5 := (hB5.block D (Array.getElem?_eq_some_iff.1 HK.out).1).trans HK.out
    refine ⟨by simp, .inl ⟨_, _, rfl, run_takeDeferred hK5, ?_⟩⟩
    have hw4 := hBW4.size
    have hw := HB.out.size
    have hDD := HD.out
    refine ⟨_, results_tmp rfl _ _ _, ?_, (HB.out.trans (hB5.mono hw)).grown (grownBy_putObj' W5 D _) (by have := hB5.size; omega) (fun k e => by cases e; omega)⟩
    have hgg : Num.gval zs = Int.gcd (vS a) (vS b) := by rw [HZ.out, gS_val, gS_val]; simp [Int.gcd]
    rw [hgg]; rfl

theorem gcd_any (a b : ByteArray) (w : World) (hG : Ground w) (ha : a.size ≤ 4294967296) (hb : b.size ≤ 4294967296) :
    Calls Tryz.prog 163 #[.string a, .string b] w (StrPost w (Int.gcd (vS a) (vS b))) :=
  callsIn_wide.1 (gcd_in 3 (Nat.le_refl _) a b w hG ha hb)

end Go.Proofs.YtahnkmkmoalbhaaGreatDoor

/- the laws' own functions: compare, Great, great, awake. -/
namespace Go.Proofs.YtahnkmkmoalbhaaGreatDoor
open Go.RowKit

/-- some string is longer than 60 bytes -/
def long (ss : List ByteArray) : Bool := ss.any fun s => decide (60 < s.size)

theorem cS_can (z : Int) : isCan (cS z) = true := by unfold isCan; rw [vS_cS]; simp
theorem vS_one : vS ⟨#[49]⟩ = 1 := by decide +kernel
theorem vS_nil : vS ⟨#[]⟩ = 0 := by decide +kernel
theorem cS_one : cS 1 = ⟨#[49]⟩ := by decide +kernel
theorem cS_zero : cS 0 = ⟨#[]⟩ := by decide +kernel
/-! ### The contracts, by values -/
/-- a number of at most k digits -/
def Cap (k : Nat) (z : Int) : Prop := z.natAbs < 10 ^ k
theorem Cap.add {k : Nat} {x y : Int} (hx : Cap k x) (hy : Cap k y) : Cap (k + 1) (x + y) := by
  unfold Cap at *; rw [Nat.pow_succ]; omega
theorem Cap.neg {k : Nat} {x : Int} (hx : Cap k x) : Cap k (-x) := by unfold Cap at *; omega
theorem Cap.mono {k l : Nat} {x : Int} (hx : Cap k x) (h : k ≤ l) : Cap l x := Nat.lt_of_lt_of_le hx (Nat.pow_le_pow_right (by decide) h)
theorem Cap.mul {k l : Nat} {x y : Int} (hx : Cap k x) (hy : Cap l y) : Cap (k + l) (x * y) := by
  unfold Cap at *
  rw [Int.natAbs_mul, Nat.pow_add]
  exact Nat.mul_lt_mul'' hx hy
theorem Cap.size {k : Nat} {z : Int} (h : Cap k z) (hk : k ≤ 4294967294) : (cS z).size ≤ 4294967295 := by have := cS_size h; omega
theorem Cap.of {s : ByteArray} {k : Nat} {x : Int} (h : s.size ≤ k) (hx : vS s = x) : Cap k x := by
  have := vS_lt s
  rw [hx] at this
  exact Cap.mono this h
theorem le_big {n : Nat} (h : n ≤ 4294967295) : n ≤ 4294967296 := Nat.le_succ_of_le h

theorem add_v {a b : ByteArray} {x y z : Int} (w : World) (hG : Ground w) (ha : a.size ≤ 4294967295) (hb : b.size ≤ 4294967295) (hx : vS a = x) (hy : vS b = y) (hz : x + y = z) :
    Calls Tryz.prog 35 #[.string a, .string b] w (StrPost w z) := by rw [← hz, ← hx, ← hy]; exact add_any a b w hG (le_big ha) (le_big hb)
theorem mul_v {a b : ByteArray} {x y z : Int} (w : World) (hG : Ground w) (ha : a.size ≤ 4294967295) (hb : b.size ≤ 4294967295) (hx : vS a = x) (hy : vS b = y) (hz : x * y = z) :
    Calls Tryz.prog 90 #[.string a, .string b] w (StrPost w z) := by rw [← hz, ← hx, ← hy]; exact mul_any a b w hG (le_big ha) (le_big hb)
theorem gcd_v {a b : ByteArray} {x y z : Int} (w : World) (hG : Ground w) (ha : a.size ≤ 4294967295) (hb : b.size ≤ 4294967295) (hx : vS a = x) (hy : vS b = y) (hz : (Int.gcd x y : Int) = z) :
    Calls Tryz.prog 163 #[.string a, .string b] w (StrPost w z) := by rw [← hz, ← hx, ← hy]; exact gcd_any a b w hG (le_big ha) (le_big hb)
theorem compare_v {a b : ByteArray} {x y z : Int} (w : World) (ha : a.size ≤ 4294967295) (hb : b.size ≤ 4294967295) (hx : vS a = x) (hy : vS b = y) (hz : cmp3 x y = z) :
    Calls Tryz.prog 184 #[.string a, .string b] w fun e w' => e = .returned (.int .i64 z) ∧ Below w.heap.size w w' := by rw [← hz, ← hx, ← hy]; exact compare_any a b w (le_big ha) (le_big hb)
theorem canonical_v {a : ByteArray} {x z : Int} (w : World) (ha : a.size ≤ 4294967295) (hx : vS a = x) (hz : x = z) :
    Calls Tryz.prog 73 #[.string a] w fun e w' => e = .returned (.string (cS z)) ∧ w = w' := by rw [← hz, ← hx]; exact canonical_any a w (le_big ha)
theorem div_v {a b : ByteArray} {x y q r : Int} (w : World) (hG : Ground w) (ha : a.size ≤ 4294967295) (hb : b.size ≤ 4294967295) (hx : vS a = x) (hy : vS b = y) (h0 : y ≠ 0) (hq : Int.fdiv x y = q) (hr : Int.fmod x y = r) :
    Calls Tryz.prog 89 #[.string a, .string b] w fun e w' => e = .returned (.tuple #[.string (cS q), .string (cS r), .int .i64 0]) ∧ Below w.heap.size w w' := by
  rw [← hq, ← hr, ← hx, ← hy]; exact div_any a b w hG (le_big ha) (le_big hb) (by rw [hy]; exact h0)

end Go.Proofs.YtahnkmkmoalbhaaGreatDoor

/- The reference implementation of layer 1: digits, Canonical, Check, Neg, Print, Parse: walks. -/
namespace Go.Proofs.YtahnkmkmoalbhaaGreatDoor
open Go.RowKit

theorem split_good' {l d : List UInt8} {ng : Bool} (h : (ng, d) = Num.cut l) (hd : d.all Num.isDig = true) : Num.sdig l = Num.strip d := by
  unfold Num.sdig; rw [← h]; simp only [hd]; rfl
theorem sneg_of {l d : List UInt8} {ng : Bool} (h : (ng, d) = Num.cut l) : Num.sneg l = (ng && !(Num.sdig l).isEmpty) := by
  unfold Num.sneg; rw [← h]

def strSz : Value → Nat | .string s => s.size | _ => 0

/-- the three ways in which a string begins -/
theorem cut_ways (s : ByteArray) : (s.size = 0 ∧ Num.cut s.data.toList = (false, s.data.toList)) ∨
    (∃ h : 0 < s.size, s[0]'h = 45 ∧ Num.cut s.data.toList = (true, (s.extract 1 s.size).data.toList)) ∨
    (∃ h : 0 < s.size, s[0]'h ≠ 45 ∧ Num.cut s.data.toList = (false, s.data.toList)) := by
  by_cases h0 : 0 < s.size
  · have hl : 0 < s.data.toList.length := by rw [size_toList]; exact h0
    have hb := byte_at s 0 h0 hl
    by_cases h : s[0]'h0 = 45
    · refine .inr (.inl ⟨h0, h, ?_⟩)
      unfold Num.cut
      rw [if_pos, Lib.extract_to_end]
      · simp
      · rw [List.head?_eq_getElem?, List.getElem?_eq_getElem hl, hb, h]
    · refine .inr (.inr ⟨h0, h, ?_⟩)
      unfold Num.cut
      rw [if_neg]
      rw [List.head?_eq_getElem?, List.getElem?_eq_getElem hl, hb]
      simpa using h
  · refine .inl ⟨by omega, ?_⟩
    unfold Num.cut
    rw [if_neg]
    have : s.data.toList = [] := List.eq_nil_of_length_eq_zero (by rw [size_toList]; omega)
    rw [this]; simp

theorem strip_at_zero {E : ByteArray} (h : 0 < E.size) (h0 : E[0]'h = 48) : Num.strip (E.extract 1 E.size).data.toList = Num.strip E.data.toList := by
  have hl : 0 < E.data.toList.length := by rw [size_toList]; exact h
  have hb := byte_at E 0 h hl
  rw [Lib.extract_to_end]
  cases he : E.data.toList with
  | nil => rw [he] at hl; simp at hl
  | cons c r =>
    have : c = 48 := by
      have := hb
      simp only [he, List.getElem_cons_zero] at this
      rw [this, h0]
    subst this
    simp [Num.strip]
theorem strip_at {E : ByteArray} (h : 0 < E.size) (h0 : E[0]'h ≠ 48) : Num.strip E.data.toList = E.data.toList := by
  have hl : 0 < E.data.toList.length := by rw [size_toList]; exact h
  have hb := byte_at E 0 h hl
  cases he : E.data.toList with
  | nil => rfl
  | cons c r =>
    have : c ≠ 48 := by
      have := hb
      simp only [he, List.getElem_cons_zero] at this
      rw [this]; exact h0
    simp [Num.strip, this]
theorem strip_empty {E : ByteArray} (h : E.size = 0) : Num.strip E.data.toList = E.data.toList := by
  have : E.data.toList = [] := List.eq_nil_of_length_eq_zero (by rw [size_toList]; omega)
  rw [this]; rfl
theorem ofToList (E : ByteArray) : (ByteArray.mk E.data.toList.toArray) = E := by cases E; rfl
theorem isEmpty_size (E : ByteArray) : E.data.toList.isEmpty = decide (E.size = 0) := by
  rw [Bool.eq_iff_iff, decide_eq_true_iff, List.isEmpty_iff, ← List.length_eq_zero_iff, size_toList]
/-- what digits returns at a string -/
def DigPost (s : ByteArray) (w : World) (e : Ending) (w' : World) : Prop := e = .returned (.tuple #[.string ⟨(Num.sdig s.data.toList).toArray⟩, .bool (Num.sneg s.data.toList)]) ∧ w = w'

theorem dig_bad {s : ByteArray} {ng : Bool} {d : List UInt8} (h : (ng, d) = Num.cut s.data.toList) (hd : d.all Num.isDig = false) {w : World} : DigPost s w (.returned (.tuple #[.string ⟨#[]⟩, .bool false])) w := by
  have := split_bad h hd
  unfold DigPost; rw [this.1, this.2]; exact ⟨rfl, rfl⟩
theorem dig_good {s E : ByteArray} {ng : Bool} {d : List UInt8} (h : (ng, d) = Num.cut s.data.toList) (hd : d.all Num.isDig = true) (hE : Num.strip d = E.data.toList) {w : World} {b : Bool} (hb : b = (ng && !decide (E.size = 0))) :
    DigPost s w (.returned (.tuple #[.string E, .bool b])) w := by
  have h1 := split_good' h hd
  have h2 := sneg_of h
  unfold DigPost
  rw [h2, h1, hE, ofToList, hb, isEmpty_size]; exact ⟨rfl, rfl⟩

set_option maxHeartbeats 1000000 in
theorem digits_any (s : ByteArray) (w : World) (hs : s.size ≤ maxLen) :
    Calls Tryz.prog 85 #[.string s] w (DigPost s w) := by
  have hs' : s.size ≤ 9223372036854775807 := by unfold maxLen at hs; omega
  rcases cut_ways s with ⟨h0, hc⟩ | ⟨h0, h1, hc⟩ | ⟨h0, h1, hc⟩
  · have h0' : ¬ 0 < s.size := by omega
    have HC := Lib.hid hc.symm
    clear hc h0
    go_enter Tryz.func85, Tryz.ntmps85
    go_wp2_with fail
    go_loop [6] (fun i => ∃ k : Nat, k ≤ s.size ∧ i = .int .i64 k ∧ (s.data.toList.take k).all Num.isDig = true) (fun i => s.size - (intOf i).toNat)
    case atStart => exact ⟨0, Nat.zero_le _, rfl, rfl⟩
    case round =>
      obtain ⟨k, hk, rfl, ha⟩ := hrel
      have HA := Lib.hid ha
      clear ha
      by_cases hlt : k < s.size
      · have hlt' : k < s.data.toList.length := by rw [size_toList]; exact hlt
        have HB := Lib.hid (byte_at s k hlt hlt')
        by_cases b1 : ((s[k]'hlt).toNat : Int) < 48
        · have H := Lib.hid (dig_bad HC.out (not_all_at hlt' (.inl (by rw [HB.out]; exact b1))) (w := w))
          clear HB hlt'
          go_wp2
          go_ret2
          exact H.out
        · by_cases b2 : 57 < ((s[k]'hlt).toNat : Int)
          · have H := Lib.hid (dig_bad HC.out (not_all_at hlt' (.inr (by rw [HB.out]; exact b2))) (w := w))
            clear HB hlt'
            go_wp2
            go_ret2
            exact H.out
          · have H := Lib.hid (all_take_succ HA.out hlt' (by rw [HB.out]; exact b1) (by rw [HB.out]; exact b2))
            clear HB hlt'
            go_wp2
            go_round
            case rel => exact ⟨k + 1, by omega, by go_num, H.out⟩
            case measure => simp [intOf]; omega
      · have ha : s.data.toList.all Num.isDig = true := by have := HA.out; rw [List.take_of_length_le (by rw [size_toList]; omega)] at this; exact this
        have HAll := Lib.hid ha
        clear ha HA
        go_wp2_with fail
        go_loop [4] (fun v => ∃ E : ByteArray, v = .string E ∧ E.size ≤ s.size ∧ Num.strip s.data.toList = Num.strip E.data.toList) (fun v => strSz v)
        case atStart => exact ⟨s, rfl, Nat.le_refl _, rfl⟩
        case round =>
          obtain ⟨E, rfl, hEs, hE⟩ := hrel
          have HE := Lib.hid hE
          clear hE
          by_cases he : 0 < E.size
          · by_cases hz : E[0]'he = 48
            · have hzb : (((E[0]'he).toNat : Int) == 48) = true := by rw [hz]; rfl
              have H := Lib.hid (HE.out.trans (strip_at_zero he hz).symm)
              have hsz : (E.extract 1 E.size).size = E.size - 1 := by simp
              have HSZ := Lib.hid hsz
              clear hz hsz
              go_wp2
              go_round
              case rel => exact ⟨_, rfl, by rw [HSZ.out]; omega, H.out⟩
              case measure => simp [strSz]; omega
            · have hzb : (((E[0]'he).toNat : Int) == 48) = false := by
                rw [beq_eq_false_iff_ne]; intro h; exact hz (UInt8.toNat_inj.1 (by show _ = 48; omega))
              have H := Lib.hid (dig_good HC.out HAll.out (HE.out.trans (strip_at he hz)) (w := w) (b := false) (by simp))
              clear hz
              go_wp2
              go_ret2
              exact H.out
          · have H := Lib.hid (dig_good HC.out HAll.out (HE.out.trans (strip_empty (by omega))) (w := w) (b := false) (by simp [show E.size = 0 by omega]))
            go_wp2
            go_ret2
            exact H.out
  · have hb : (((s[0]'h0).toNat : Int) == 45) = true := by rw [h1]; rfl
    obtain ⟨D, hD⟩ : ∃ D, s.extract 1 s.size = D := ⟨_, rfl⟩
    rw [hD] at hc
    have hDs : D.size ≤ 9223372036854775807 := by rw [← hD]; simp; omega
    have HC := Lib.hid hc.symm
    clear hc h1
    go_enter Tryz.func85, Tryz.ntmps85
    go_wp2_with fail
    clear hD hb
    go_wp2_with fail
    go_loop [6] (fun i => ∃ k : Nat, k ≤ D.size ∧ i = .int .i64 k ∧ (D.data.toList.take k).all Num.isDig = true) (fun i => D.size - (intOf i).toNat)
    case atStart => exact ⟨0, Nat.zero_le _, rfl, rfl⟩
    case round =>
      obtain ⟨k, hk, rfl, ha⟩ := hrel
      have HA := Lib.hid ha
      clear ha
      by_cases hlt : k < D.size
      · have hlt' : k < D.data.toList.length := by rw [size_toList]; exact hlt
        have HB := Lib.hid (byte_at D k hlt hlt')
        by_cases b1 : ((D[k]'hlt).toNat : Int) < 48
        · have H := Lib.hid (dig_bad HC.out (not_all_at hlt' (.inl (by rw [HB.out]; exact b1))) (w := w))
          clear HB hlt'
          go_wp2
          go_ret2
          exact H.out
        · by_cases b2 : 57 < ((D[k]'hlt).toNat : Int)
          · have H := Lib.hid (dig_bad HC.out (not_all_at hlt' (.inr (by rw [HB.out]; exact b2))) (w := w))
            clear HB hlt'
            go_wp2
            go_ret2
            exact H.out
          · have H := Lib.hid (all_take_succ HA.out hlt' (by rw [HB.out]; exact b1) (by rw [HB.out]; exact b2))
            clear HB hlt'
            go_wp2
            go_round
            case rel => exact ⟨k + 1, by omega, by go_num, H.out⟩
            case measure => simp [intOf]; omega
      · have ha : D.data.toList.all Num.isDig = true := by have := HA.out; rw [List.take_of_length_le (by rw [size_toList]; omega)] at this; exact this
        have HAll := Lib.hid ha
        clear ha HA
        go_wp2_with fail
        go_loop [4] (fun v => ∃ E : ByteArray, v = .string E ∧ E.size ≤ D.size ∧ Num.strip D.data.toList = Num.strip E.data.toList) (fun v => strSz v)
        case atStart => exact ⟨D, rfl, Nat.le_refl _, rfl⟩
        case round =>
          obtain ⟨E, rfl, hEs, hE⟩ := hrel
          have HE := Lib.hid hE
          clear hE
          by_cases he : 0 < E.size
          · by_cases hz : E[0]'he = 48
            · have hzb : (((E[0]'he).toNat : Int) == 48) = true := by rw [hz]; rfl
              have H := Lib.hid (HE.out.trans (strip_at_zero he hz).symm)
              have hsz : (E.extract 1 E.size).size = E.size - 1 := by simp
              have HSZ := Lib.hid hsz
              clear hz hsz
              go_wp2
              go_round
              case rel => exact ⟨_, rfl, by rw [HSZ.out]; omega, H.out⟩
              case measure => simp [strSz]; omega
            · have hzb : (((E[0]'he).toNat : Int) == 48) = false := by
                rw [beq_eq_false_iff_ne]; intro h; exact hz (UInt8.toNat_inj.1 (by show _ = 48; omega))
              have H := Lib.hid (dig_good HC.out HAll.out (HE.out.trans (strip_at he hz)) (w := w) (b := true) (by simp [show E.size ≠ 0 by omega]))
              clear hz
              go_wp2
              go_ret2
              exact H.out
          · have H := Lib.hid (dig_good HC.out HAll.out (HE.out.trans (strip_empty (by omega))) (w := w) (b := false) (by simp [show E.size = 0 by omega]))
            go_wp2
            go_ret2
            exact H.out
  · have hb : (((s[0]'h0).toNat : Int) == 45) = false := by
      rw [beq_eq_false_iff_ne]; intro h; exact h1 (UInt8.toNat_inj.1 (by show _ = 45; omega))
    have HC := Lib.hid hc.symm
    clear hc h1
    go_enter Tryz.func85, Tryz.ntmps85
    go_wp2_with fail
    go_loop [6] (fun i => ∃ k : Nat, k ≤ s.size ∧ i = .int .i64 k ∧ (s.data.toList.take k).all Num.isDig = true) (fun i => s.size - (intOf i).toNat)
    case atStart => exact ⟨0, Nat.zero_le _, rfl, rfl⟩
    case round =>
      obtain ⟨k, hk, rfl, ha⟩ := hrel
      have HA := Lib.hid ha
      clear ha
      by_cases hlt : k < s.size
      · have hlt' : k < s.data.toList.length := by rw [size_toList]; exact hlt
        have HB := Lib.hid (byte_at s k hlt hlt')
        by_cases b1 : ((s[k]'hlt).toNat : Int) < 48
        · have H := Lib.hid (dig_bad HC.out (not_all_at hlt' (.inl (by rw [HB.out]; exact b1))) (w := w))
          clear HB hlt'
          go_wp2
          go_ret2
          exact H.out
        · by_cases b2 : 57 < ((s[k]'hlt).toNat : Int)
          · have H := Lib.hid (dig_bad HC.out (not_all_at hlt' (.inr (by rw [HB.out]; exact b2))) (w := w))
            clear HB hlt'
            go_wp2
            go_ret2
            exact H.out
          · have H := Lib.hid (all_take_succ HA.out hlt' (by rw [HB.out]; exact b1) (by rw [HB.out]; exact b2))
            clear HB hlt'
            go_wp2
            go_round
            case rel => exact ⟨k + 1, by omega, by go_num, H.out⟩
            case measure => simp [intOf]; omega
      · have ha : s.data.toList.all Num.isDig = true := by have := HA.out; rw [List.take_of_length_le (by rw [size_toList]; omega)] at this; exact this
        have HAll := Lib.hid ha
        clear ha HA
        go_wp2_with fail
        go_loop [4] (fun v => ∃ E : ByteArray, v = .string E ∧ E.size ≤ s.size ∧ Num.strip s.data.toList = Num.strip E.data.toList) (fun v => strSz v)
        case atStart => exact ⟨s, rfl, Nat.le_refl _, rfl⟩
        case round =>
          obtain ⟨E, rfl, hEs, hE⟩ := hrel
          have HE := Lib.hid hE
          clear hE
          by_cases he : 0 < E.size
          · by_cases hz : E[0]'he = 48
            · have hzb : (((E[0]'he).toNat : Int) == 48) = true := by rw [hz]; rfl
              have H := Lib.hid (HE.out.trans (strip_at_zero he hz).symm)
              have hsz : (E.extract 1 E.size).size = E.size - 1 := by simp
              have HSZ := Lib.hid hsz
              clear hz hsz
              go_wp2
              go_round
              case rel => exact ⟨_, rfl, by rw [HSZ.out]; omega, H.out⟩
              case measure => simp [strSz]; omega
            · have hzb : (((E[0]'he).toNat : Int) == 48) = false := by
                rw [beq_eq_false_iff_ne]; intro h; exact hz (UInt8.toNat_inj.1 (by show _ = 48; omega))
              have H := Lib.hid (dig_good HC.out HAll.out (HE.out.trans (strip_at he hz)) (w := w) (b := false) (by simp))
              clear hz
              go_wp2
              go_ret2
              exact H.out
          · have H := Lib.hid (dig_good HC.out HAll.out (HE.out.trans (strip_empty (by omega))) (w := w) (b := false) (by simp [show E.size = 0 by omega]))
            go_wp2
            go_ret2
            exact H.out

end Go.Proofs.YtahnkmkmoalbhaaGreatDoor

/- The reference implementation of layer 1: Canonical, Neg: walks. -/

namespace Go.Proofs.YtahnkmkmoalbhaaGreatDoor
open Go.RowKit

theorem cS_minus {s : ByteArray} (h : Num.sneg s.data.toList = true) : (ByteArray.mk #[45]) ++ (ByteArray.mk (Num.sdig s.data.toList).toArray) = cS (vS s) := by
  rw [minus_append]
  unfold cS vS
  rw [← Num.joined_val, h]
  unfold Num.joined
  have h2 := Num.sneg_mag h
  have : (Num.sdig s.data.toList).isEmpty = false := by
    rw [List.isEmpty_eq_false_iff]; intro e; unfold Num.mag at h2; rw [e] at h2; simp [Num.num] at h2
  rw [this]; rfl
theorem cS_plus {s : ByteArray} (h : Num.sneg s.data.toList = false) : (ByteArray.mk (Num.sdig s.data.toList).toArray) = cS (vS s) := by
  unfold cS vS
  rw [← Num.joined_val, h]; rfl
theorem cSn_minus {s : ByteArray} (h : Num.sneg s.data.toList = true) : (ByteArray.mk (Num.sdig s.data.toList).toArray) = cS (-(vS s)) := by
  unfold cS vS
  rw [← Num.joined_neg, ← Num.sneg_val, ← Num.sdig_val, h]; rfl
theorem cSn_zero {s : ByteArray} (h : Num.sdig s.data.toList = []) : (ByteArray.mk (Num.sdig s.data.toList).toArray) = cS (-(vS s)) := by
  unfold cS vS
  rw [← Num.joined_neg, ← Num.sdig_val, h]
  unfold Num.joined; simp
theorem cSn_plus {s : ByteArray} (h : Num.sneg s.data.toList = false) (h0 : (Num.sdig s.data.toList).isEmpty = false) : (ByteArray.mk #[45]) ++ (ByteArray.mk (Num.sdig s.data.toList).toArray) = cS (-(vS s)) := by
  rw [minus_append]
  unfold cS vS
  rw [← Num.joined_neg, ← Num.sneg_val, ← Num.sdig_val, h]
  unfold Num.joined; rw [h0]; rfl

set_option maxHeartbeats 400000 in
theorem rCanonical_any (s : ByteArray) (w : World) (hs : s.size ≤ 4294967296) :
    Calls Tryz.prog 81 #[.string s] w fun e w' => e = .returned (.string (cS (vS s))) ∧ w = w' := by
  have hl := sdig_lim hs
  have hm := lim_max hs
  cases hn : Num.sneg s.data.toList
  · have H := Lib.hid (cS_plus hn)
    go_enter Tryz.func81, Tryz.ntmps81
    go_wp2_with fail
    refine (digits_any s w hm).mono ?_
    rintro e w' ⟨rfl, rfl⟩
    rw [hn]
    go_wp2_with fail
    go_ret
    exact ⟨by rw [H.out]; rfl, rfl⟩
  · have H := Lib.hid (cS_minus hn)
    have h0 : ¬ 9223372036854775807 < 1 + (Num.sdig s.data.toList).length := by omega
    go_enter Tryz.func81, Tryz.ntmps81
    go_wp2_with fail
    refine (digits_any s w hm).mono ?_
    rintro e w' ⟨rfl, rfl⟩
    rw [hn]
    go_wp2_with fail
    go_ret
    exact ⟨by rw [H.out]; rfl, rfl⟩

set_option maxHeartbeats 400000 in
theorem rNeg_any (s : ByteArray) (w : World) (hs : s.size ≤ 4294967296) :
    Calls Tryz.prog 58 #[.string s] w fun e w' => e = .returned (.string (cS (- vS s))) ∧ w = w' := by
  have hl := sdig_lim hs
  have hm := lim_max hs
  cases hn : Num.sneg s.data.toList
  · cases h0 : (Num.sdig s.data.toList).isEmpty
    · have H := Lib.hid (cSn_plus hn h0)
      have hz : ¬ 9223372036854775807 < 1 + (Num.sdig s.data.toList).length := by omega
      have h1 : Num.sdig s.data.toList ≠ [] := by simpa using h0
      have hq : (ByteArray.mk (Num.sdig s.data.toList).toArray).toList.isEmpty = false := by rw [Lib.toList_data]; simpa using h1
      have hq2 : ((ByteArray.mk (Num.sdig s.data.toList).toArray).toList == []) = false := by rw [Lib.toList_data]; simpa using h1
      go_enter Tryz.func58, Tryz.ntmps58
      go_wp2_with fail
      refine (digits_any s w hm).mono ?_
      rintro e w' ⟨rfl, rfl⟩
      rw [hn]
      go_wp2_with fail
      go_ret
      exact ⟨by rw [H.out]; rfl, rfl⟩
    · have h1 : Num.sdig s.data.toList = [] := by simpa using h0
      have H := Lib.hid (cSn_zero h1)
      have hq : (ByteArray.mk (Num.sdig s.data.toList).toArray).toList.isEmpty = true := by rw [Lib.toList_data]; simpa using h1
      have hq2 : ((ByteArray.mk (Num.sdig s.data.toList).toArray).toList == []) = true := by rw [Lib.toList_data]; simpa using h1
      clear h1
      go_enter Tryz.func58, Tryz.ntmps58
      go_wp2_with fail
      refine (digits_any s w hm).mono ?_
      rintro e w' ⟨rfl, rfl⟩
      rw [hn]
      go_wp2_with fail
      go_ret
      exact ⟨by rw [H.out]; rfl, rfl⟩
  · have H := Lib.hid (cSn_minus hn)
    go_enter Tryz.func58, Tryz.ntmps58
    go_wp2_with fail
    refine (digits_any s w hm).mono ?_
    rintro e w' ⟨rfl, rfl⟩
    rw [hn]
    go_wp2_with fail
    go_ret
    exact ⟨by rw [H.out]; rfl, rfl⟩

end Go.Proofs.YtahnkmkmoalbhaaGreatDoor

/- The reference implementation of layer 1: Check, Print, Parse: walks. -/
namespace Go.Proofs.YtahnkmkmoalbhaaGreatDoor
open Go.RowKit

set_option maxHeartbeats 400000 in
theorem rCheck_any (s : ByteArray) (w : World) (hs : s.size ≤ 4294967296) :
    Calls Tryz.prog 55 #[.string s] w fun e w' => e = .returned (.int .i64 (chk s)) ∧ w = w' := by
  have hb := beq_toList (cS (vS s)) s
  cases hc : isCan s
  · have H := Lib.hid (show chk s = 1 by unfold chk; rw [hc]; rfl)
    unfold isCan at hc
    rw [hc] at hb
    clear hc
    go_enter Tryz.func55, Tryz.ntmps55
    go_wp2_with (first | (go_at_call 81; refine (rCanonical_any _ _ hs).mono ?_; rintro e w' ⟨rfl, rfl⟩))
    go_ret
    exact ⟨by rw [H.out]; rfl, rfl⟩
  · have H := Lib.hid (show chk s = 0 by unfold chk; rw [hc]; rfl)
    unfold isCan at hc
    rw [hc] at hb
    clear hc
    go_enter Tryz.func55, Tryz.ntmps55
    go_wp2_with (first | (go_at_call 81; refine (rCanonical_any _ _ hs).mono ?_; rintro e w' ⟨rfl, rfl⟩))
    go_ret
    exact ⟨by rw [H.out]; rfl, rfl⟩

end Go.Proofs.YtahnkmkmoalbhaaGreatDoor

/- The reference implementation of layer 1: short, Small, Of, Compare: walks. -/
namespace Go.Proofs.YtahnkmkmoalbhaaGreatDoor
open Go.RowKit

theorem num_take_le (d : List UInt8) (k : Nat) : Num.num (d.take k) ≤ Num.num d := by
  conv => rhs; rw [← List.take_append_drop k d]
  rw [Num.num_append]
  have := Nat.le_mul_of_pos_right (Num.num (d.take k)) (Nat.pow_pos (n := (d.drop k).length) (show 0 < 10 by decide))
  omega
theorem num_take_succ {D : ByteArray} {k : Nat} (h : k < D.size) : Num.num (D.data.toList.take (k + 1)) = 10 * Num.num (D.data.toList.take k) + Num.dv (D[k]'h) := by
  have hl : k < D.data.toList.length := by rw [size_toList]; exact h
  rw [List.take_succ_eq_append_getElem hl, byte_at D k h hl, Num.num_snoc]
theorem dig_at {D : ByteArray} {k : Nat} (h : k < D.size) (ha : D.data.toList.all Num.isDig = true) : 48 ≤ (D[k]'h).toNat ∧ (D[k]'h).toNat ≤ 57 := by
  have hl : k < D.data.toList.length := by rw [size_toList]; exact h
  have := List.all_eq_true.1 ha _ (List.getElem_mem hl)
  rw [byte_at D k h hl] at this
  exact (Num.isDig_iff _).1 this

/-- the digits of a string, as Go's string -/
theorem dig_str (s : ByteArray) : ∃ D : ByteArray, D = ⟨(Num.sdig s.data.toList).toArray⟩ ∧ D.data.toList = Num.sdig s.data.toList ∧ D.data.toList.all Num.isDig = true ∧ D.size ≤ s.size := by
  refine ⟨_, rfl, rfl, (Num.Plain.sdig _).1, ?_⟩
  have := Num.sdig_length s.data.toList
  rw [size_toList] at this
  rw [← size_toList]; exact this

/-- what short returns -/
def shortV (s : ByteArray) : Value := if (Num.sdig s.data.toList).length ≤ 17 then .tuple #[.int .i64 (vS s), .bool true] else .tuple #[.int .i64 0, .bool false]

set_option maxHeartbeats 1000000 in
theorem short_yes (s : ByteArray) (w : World) (hs : s.size ≤ 4294967296) (h17 : (Num.sdig s.data.toList).length ≤ 17) :
    Calls Tryz.prog 113 #[.string s] w fun e w' => e = .returned (.tuple #[.int .i64 (vS s), .bool true]) ∧ w = w' := by
  have hm := lim_max hs
  obtain ⟨D, hD, hDl, hall, hDs⟩ := dig_str s
  have hD17 : D.size ≤ 17 := by rw [← size_toList, hDl]; exact h17
  have hlt := Num.num_lt _ hall
  rw [size_toList] at hlt
  have hlt2 : Num.num D.data.toList < 100000000000000000 := by
    have := Nat.pow_le_pow_right (show 1 ≤ 10 by decide) hD17
    omega
  have hv : vS s = if Num.sneg s.data.toList then -(Num.num D.data.toList : Int) else Num.num D.data.toList := by
    rw [hDl]; rfl
  have HV := Lib.hid hv
  have HD := Lib.hid hD
  have HA := Lib.hid hall
  have HLT := Lib.hid hlt2
  clear hv hD hall hlt hlt2 hDl h17
  obtain ⟨ng, hng⟩ : ∃ ng, Num.sneg s.data.toList = ng := ⟨_, rfl⟩
  go_enter Tryz.func113, Tryz.ntmps113
  go_wp2_with fail
  refine (digits_any s w hm).mono ?_
  rintro e w' ⟨rfl, rfl⟩
  rw [← HD.out, hng]
  have HNG := Lib.hid hng
  clear hng
  go_wp2_with fail
  go_loop [6, 7] (fun nv iv => ∃ k : Nat, k ≤ D.size ∧ iv = .int .i64 k ∧ nv = .int .i64 (Num.num (D.data.toList.take k) : Nat)) (fun _ iv => D.size - (intOf iv).toNat)
  case atStart => exact ⟨0, Nat.zero_le _, rfl, rfl⟩
  case round =>
    obtain ⟨k, hk, rfl, rfl⟩ := hrel
    have hb := num_take_le D.data.toList k
    have hb2 : Num.num (D.data.toList.take k) < 100000000000000000 := by have := HLT.out; omega
    obtain ⟨x, hx⟩ : ∃ x, x = Num.num (D.data.toList.take k) := ⟨_, rfl⟩
    rw [← hx] at hb2 ⊢
    clear hb
    by_cases hlt : k < D.size
    · have hd := dig_at hlt HA.out
      have hsu := num_take_succ hlt
      rw [← hx] at hsu
      have hn : ((Num.num (D.data.toList.take (k + 1)) : Nat) : Int) = 10 * (x : Int) + (((D[k]'hlt).toNat : Int) - 48) := by rw [hsu]; unfold Num.dv; omega
      have HN := Lib.hid hn
      have hd1 : (48 : Int) ≤ ((D[k]'hlt).toNat : Int) := by omega
      have hd2 : ((D[k]'hlt).toNat : Int) ≤ 57 := by omega
      clear hn hsu hx hd
      go_wp2_with fail
      go_round
      case rel => exact ⟨k + 1, by omega, by go_num, by rw [HN.out]⟩
      case measure => simp [intOf]; omega
    · have hx2 : x = Num.num D.data.toList := by rw [hx, List.take_of_length_le (by rw [size_toList]; omega)]
      have HX := Lib.hid hx2
      clear hx hx2
      cases ng
      · have hv : vS s = (x : Int) := by have := HV.out; rw [HNG.out] at this; rw [this, HX.out]; rfl
        have H := Lib.hid hv
        clear hv
        go_wp2_with fail
        go_ret2
        exact ⟨by rw [H.out]; rfl, rfl⟩
      · have hv : vS s = -(x : Int) := by have := HV.out; rw [HNG.out] at this; rw [this, HX.out]; rfl
        have H := Lib.hid hv
        clear hv
        go_wp2_with fail
        go_ret2
        exact ⟨by rw [H.out]; rfl, rfl⟩

set_option maxHeartbeats 1000000 in
theorem short_no (s : ByteArray) (w : World) (hs : s.size ≤ 4294967296) (h17 : 17 < (Num.sdig s.data.toList).length) :
    Calls Tryz.prog 113 #[.string s] w fun e w' => e = .returned (.tuple #[.int .i64 0, .bool false]) ∧ w = w' := by
  have hm := lim_max hs
  go_enter Tryz.func113, Tryz.ntmps113
  go_wp2_with fail
  refine (digits_any s w hm).mono ?_
  rintro e w' ⟨rfl, rfl⟩
  go_wp2_with fail
  go_ret2
  exact ⟨rfl, rfl⟩

theorem short_any (s : ByteArray) (w : World) (hs : s.size ≤ 4294967296) :
    Calls Tryz.prog 113 #[.string s] w fun e w' => e = .returned (shortV s) ∧ w = w' := by
  unfold shortV
  by_cases h : (Num.sdig s.data.toList).length ≤ 17
  · rw [if_pos h]; exact short_yes s w hs h
  · rw [if_neg h]; exact short_no s w hs (by omega)

end Go.Proofs.YtahnkmkmoalbhaaGreatDoor

/- The reference implementation of layer 1: Of: the walk. -/
namespace Go.Proofs.YtahnkmkmoalbhaaGreatDoor
open Go.RowKit

theorem digs_step {M : Nat} (h : M ≠ 0) : Num.digs M = Num.digs (M / 10) ++ [UInt8.ofNat (48 + M % 10)] := by
  unfold Num.digs
  rw [if_neg h]
  by_cases h1 : M < 10
  · rw [Lib.decDigits, dif_pos h1, if_pos (by omega), Nat.mod_eq_of_lt h1]; rfl
  · rw [Lib.decDigits, dif_neg h1, if_neg (by omega)]

theorem enc_low (r : Nat) (h : r < 128) : Utf8.encode (r : Int) = ⟨#[UInt8.ofNat r]⟩ := by
  have v : Utf8.valid (r : Int) = true := by simp [Utf8.valid]; omega
  simp [Utf8.encode, v, h]
/-- the text of a digit -/
theorem enc_digit (x : Nat) (h : x < 10) : Utf8.encode (48 + (x : Int)) = ⟨#[UInt8.ofNat (48 + x)]⟩ := by
  rw [show (48 : Int) + (x : Int) = ((48 + x : Nat) : Int) by omega, enc_low _ (by omega)]
theorem one_append (c : UInt8) (d : List UInt8) : (ByteArray.mk #[c]) ++ (ByteArray.mk d.toArray) = ⟨(c :: d).toArray⟩ := by
  apply ByteArray.ext
  simp [ByteArray.data_append]

/-- the digits that are written so far: those of N are those of M, and these -/
def OfRel (N M : Nat) (t : List UInt8) : Prop := Num.digs M ++ t = Num.digs N ∧ t.length ≤ 20

theorem digs_len {N : Nat} (h : N ≤ 9223372036854775808) : (Num.digs N).length ≤ 20 := by
  have h1 := canon_length_le (z := (N : Int)) (k := 19) (by simp; omega)
  have h2 : Num.canon (N : Int) = Num.digs N := by unfold Num.canon; rw [if_neg (by omega)]; simp
  rw [h2] at h1; exact h1
theorem OfRel.start {N : Nat} : OfRel N N [] := ⟨by simp, by simp⟩
theorem OfRel.step {N M : Nat} {t : List UInt8} (hN : N ≤ 9223372036854775808) (h : OfRel N M t) (h0 : M ≠ 0) : OfRel N (M / 10) (UInt8.ofNat (48 + M % 10) :: t) := by
  have h1 := h.1
  rw [digs_step h0, List.append_assoc] at h1
  refine ⟨h1, ?_⟩
  have := congrArg List.length h1
  have h2 := digs_len hN
  simp at this
  simp; omega
theorem OfRel.done {N : Nat} {t : List UInt8} (h : OfRel N 0 t) : t = Num.digs N := by
  have := h.1
  rw [show Num.digs 0 = [] from rfl] at this
  simpa using this
theorem cS_of_pos {N : Nat} : (ByteArray.mk (Num.digs N).toArray) = cS (N : Int) := by
  unfold cS Num.canon; rw [if_neg (by omega)]; simp
theorem cS_of_neg {N : Nat} (h : N ≠ 0) : (ByteArray.mk #[45]) ++ (ByteArray.mk (Num.digs N).toArray) = cS (-(N : Int)) := by
  rw [minus_append]; unfold cS Num.canon; rw [if_pos (by omega)]; simp
set_option maxRecDepth 100000 in
set_option maxHeartbeats 1000000 in
theorem rOf_zero (w : World) : Calls Tryz.prog 114 #[.int .i64 0] w fun e w' => e = .returned (.string (cS 0)) ∧ w = w' := by
  go_enter Tryz.func114, Tryz.ntmps114
  go_wp2
  go_ret
  exact ⟨rfl, rfl⟩

set_option maxRecDepth 100000 in
set_option maxHeartbeats 1000000 in
theorem rOf_pos (N : Int) (w : World) (h0 : 0 < N) (h1 : N ≤ 9223372036854775807) :
    Calls Tryz.prog 114 #[.int .i64 N] w fun e w' => e = .returned (.string (cS N)) ∧ w = w' := by
  have hz : (N == 0) = false := by rw [beq_eq_false_iff_ne]; omega
  have hb0 : ¬ N < 0 := by omega
  go_enter Tryz.func114, Tryz.ntmps114
  go_wp2_with fail
  go_loop [3, 4] (fun tv mv => ∃ (m : Int) (t : List UInt8), 0 ≤ m ∧ m ≤ N ∧ mv = .int .i64 m ∧ tv = .string ⟨t.toArray⟩ ∧ OfRel N.toNat m.toNat t) (fun _ mv => (intOf mv).toNat)
  case atStart => exact ⟨N, [], by omega, Int.le_refl _, rfl, rfl, OfRel.start⟩
  case round =>
    obtain ⟨m, t, hm0, hM, rfl, rfl, hr⟩ := hrel
    have htl := hr.2
    have HR := Lib.hid hr
    clear hr
    by_cases hz : m = 0
    · subst hz
      have H := Lib.hid (show (ByteArray.mk t.toArray) = cS N by
        rw [show t = Num.digs N.toNat from HR.out.done, cS_of_pos]
        rw [show ((N.toNat : Nat) : Int) = N by omega])
      clear HR
      go_wp2_with fail
      go_ret
      exact ⟨by rw [← H.out]; rfl, rfl⟩
    · have hb2 : (m != 0) = true := by rw [bne_iff_ne]; omega
      have hs := HR.out.step (by omega) (by omega)
      obtain ⟨d, hd⟩ : ∃ d, d = m.toNat % 10 := ⟨_, rfl⟩
      rw [← hd] at hs
      have hE := enc_digit d (by omega)
      obtain ⟨c, hc⟩ : ∃ c, c = UInt8.ofNat (48 + d) := ⟨_, rfl⟩
      rw [← hc] at hs hE
      obtain ⟨z, hzz⟩ : ∃ z : Int, z = (d : Int) := ⟨_, rfl⟩
      rw [← hzz] at hE
      have hmod : m % 10 = z := by omega
      have hz0 : 0 ≤ z := by omega
      have hz9 : z ≤ 9 := by omega
      have hdiv : m.toNat / 10 = (m / 10).toNat := by omega
      rw [hdiv] at hs
      have HS := Lib.hid hs
      have hmp : 0 < m := by omega
      clear hz hs hd hc hzz hdiv
      have hmq : m.tmod 10 = z := by rw [Int.tmod_eq_emod_of_nonneg hm0]; exact hmod
      go_wp2_with fail
      go_round
      case rel => exact ⟨m / 10, _, by omega, by omega, by go_num, by rw [← one_append]; rfl, HS.out⟩
      case measure => simp [intOf]; omega

set_option maxRecDepth 100000 in
set_option maxHeartbeats 1000000 in
theorem rOf_neg (N : Int) (w : World) (h0 : 0 < N) (h1 : N ≤ 9223372036854775808) :
    Calls Tryz.prog 114 #[.int .i64 (-N)] w fun e w' => e = .returned (.string (cS (-N))) ∧ w = w' := by
  have hz : (-N == 0) = false := by rw [beq_eq_false_iff_ne]; omega
  have hb0 : -N < 0 := by omega
  go_enter Tryz.func114, Tryz.ntmps114
  go_wp2_with fail
  go_loop [3, 4] (fun tv mv => ∃ (m : Int) (t : List UInt8), 0 ≤ m ∧ m ≤ N ∧ mv = .int .i64 (-m) ∧ tv = .string ⟨t.toArray⟩ ∧ OfRel N.toNat m.toNat t) (fun _ mv => (-(intOf mv)).toNat)
  case atStart => exact ⟨N, [], by omega, Int.le_refl _, rfl, rfl, OfRel.start⟩
  case round =>
    obtain ⟨m, t, hm0, hM, rfl, rfl, hr⟩ := hrel
    have htl := hr.2
    have HR := Lib.hid hr
    clear hr
    by_cases hz : m = 0
    · subst hz
      have H := Lib.hid (show (ByteArray.mk #[45]) ++ (ByteArray.mk t.toArray) = cS (-N) by
        rw [show t = Num.digs N.toNat from HR.out.done, cS_of_neg (by omega)]
        rw [show ((N.toNat : Nat) : Int) = N by omega])
      clear HR
      go_wp2_with fail
      go_ret
      exact ⟨by rw [← H.out]; rfl, rfl⟩
    · have hb2 : ((-m) != 0) = true := by rw [bne_iff_ne]; omega
      have hs := HR.out.step (by omega) (by omega)
      obtain ⟨d, hd⟩ : ∃ d, d = m.toNat % 10 := ⟨_, rfl⟩
      rw [← hd] at hs
      have hE := enc_digit d (by omega)
      obtain ⟨c, hc⟩ : ∃ c, c = UInt8.ofNat (48 + d) := ⟨_, rfl⟩
      rw [← hc] at hs hE
      obtain ⟨z, hzz⟩ : ∃ z : Int, z = (d : Int) := ⟨_, rfl⟩
      rw [← hzz] at hE
      have hmod : m % 10 = z := by omega
      have hz0 : 0 ≤ z := by omega
      have hz9 : z ≤ 9 := by omega
      have hdiv : m.toNat / 10 = (m / 10).toNat := by omega
      rw [hdiv] at hs
      have HS := Lib.hid hs
      have hmp : 0 < m := by omega
      clear hz hs hd hc hzz hdiv
      have hmq : (-m).tmod 10 = -z := by rw [Int.neg_tmod, Int.tmod_eq_emod_of_nonneg hm0, hmod]
      have hmd : (-m).tdiv 10 = -(m / 10) := by rw [Int.neg_tdiv, Int.tdiv_eq_ediv_of_nonneg hm0]
      by_cases hzz : z = 0
      · subst hzz
        have hmq0 : (-m).tmod 10 = 0 := by rw [hmq]; rfl
        have hE0 : Utf8.encode 48 = ⟨#[c]⟩ := by rw [← hE]; rfl
        clear hmq hmod hE
        go_wp2_with fail
        go_round
        case rel => exact ⟨m / 10, _, by omega, by omega, by go_num, by rw [← one_append]; rfl, HS.out⟩
        case measure => simp [intOf]; omega
      · have hzn : -z < 0 := by omega
        go_wp2_with fail
        go_round
        case rel => exact ⟨m / 10, _, by omega, by omega, by go_num, by rw [← one_append]; rfl, HS.out⟩
        case measure => simp [intOf]; omega

/-- Of, at every int -/
theorem rOf_any (n : Int) (w : World) (h0 : -9223372036854775808 ≤ n) (h1 : n ≤ 9223372036854775807) :
    Calls Tryz.prog 114 #[.int .i64 n] w fun e w' => e = .returned (.string (cS n)) ∧ w = w' := by
  by_cases hz : n = 0
  · subst hz; exact rOf_zero w
  · by_cases hp : 0 < n
    · exact rOf_pos n w hp h1
    · obtain ⟨m, rfl⟩ : ∃ m, n = -m := ⟨-n, by omega⟩
      exact rOf_neg m w (by omega) (by omega)

end Go.Proofs.YtahnkmkmoalbhaaGreatDoor

/- The order of digits of one length. -/
namespace Go.Proofs.YtahnkmkmoalbhaaGreatDoor
open Go.RowKit

theorem bytesLess_num : ∀ (x y : List UInt8), x.all Num.isDig = true → y.all Num.isDig = true → x.length = y.length → Op.bytesLess x y = decide (Num.num x < Num.num y)
  | [], [], _, _, _ => by simp [Op.bytesLess]
  | [], _ :: _, _, _, h => by simp at h
  | _ :: _, [], _, _, h => by simp at h
  | a :: x, b :: y, hx, hy, h => by
    simp only [List.all_cons, Bool.and_eq_true] at hx hy
    have ha := (Num.isDig_iff a).1 hx.1
    have hb := (Num.isDig_iff b).1 hy.1
    have hl : x.length = y.length := by simpa using h
    have ih := bytesLess_num x y hx.2 hy.2 hl
    have h1 := Num.num_lt x hx.2
    have h2 := Num.num_lt y hy.2
    rw [Num.num_cons, Num.num_cons]
    unfold Op.bytesLess
    rw [ih, Bool.eq_iff_iff]
    simp only [Bool.or_eq_true, Bool.and_eq_true, decide_eq_true_iff, beq_iff_eq]
    rw [hl] at h1 ⊢
    rw [UInt8.lt_iff_toNat_lt]
    generalize 10 ^ y.length = p at *
    unfold Num.dv
    by_cases c1 : a.toNat < b.toNat
    · have := Nat.mul_le_mul_right p (show a.toNat - 48 + 1 ≤ b.toNat - 48 by omega)
      rw [Nat.add_mul] at this
      exact ⟨fun _ => by omega, fun _ => .inl c1⟩
    · by_cases c2 : a = b
      · subst c2; simp
      · have c3 : b.toNat < a.toNat := by
          have : a.toNat ≠ b.toNat := fun e => c2 (UInt8.toNat_inj.1 e)
          omega
        have := Nat.mul_le_mul_right p (show b.toNat - 48 + 1 ≤ a.toNat - 48 by omega)
        rw [Nat.add_mul] at this
        exact ⟨fun h => by rcases h with h | h; omega; exact absurd h.1 c2, fun h => by omega⟩

theorem num_eq_iff : ∀ (x y : List UInt8), x.all Num.isDig = true → y.all Num.isDig = true → x.length = y.length → Num.num x = Num.num y → x = y
  | [], [], _, _, _, _ => rfl
  | [], _ :: _, _, _, h, _ => by simp at h
  | _ :: _, [], _, _, h, _ => by simp at h
  | a :: x, b :: y, hx, hy, h, e => by
    simp only [List.all_cons, Bool.and_eq_true] at hx hy
    have ha := (Num.isDig_iff a).1 hx.1
    have hb := (Num.isDig_iff b).1 hy.1
    have hl : x.length = y.length := by simpa using h
    have h1 := Num.num_lt x hx.2
    have h2 := Num.num_lt y hy.2
    rw [Num.num_cons, Num.num_cons] at e
    have ih := num_eq_iff x y hx.2 hy.2 hl
    rw [hl] at h1 e
    generalize 10 ^ y.length = p at *
    have e1 : a = b := by
      apply UInt8.toNat_inj.1
      unfold Num.dv at e
      by_cases c1 : a.toNat < b.toNat
      · have := Nat.mul_le_mul_right p (show a.toNat - 48 + 1 ≤ b.toNat - 48 by omega)
        rw [Nat.add_mul] at this; omega
      · by_cases c2 : b.toNat < a.toNat
        · have := Nat.mul_le_mul_right p (show b.toNat - 48 + 1 ≤ a.toNat - 48 by omega)
          rw [Nat.add_mul] at this; omega
        · omega
    subst e1
    rw [ih (by omega)]

theorem beq_num {x y : List UInt8} (hx : x.all Num.isDig = true) (hy : y.all Num.isDig = true) (h : x.length = y.length) : (x == y) = decide (Num.num x = Num.num y) := by
  rw [Bool.eq_iff_iff, beq_iff_eq, decide_eq_true_iff]
  exact ⟨fun e => by rw [e], num_eq_iff x y hx hy h⟩

end Go.Proofs.YtahnkmkmoalbhaaGreatDoor
