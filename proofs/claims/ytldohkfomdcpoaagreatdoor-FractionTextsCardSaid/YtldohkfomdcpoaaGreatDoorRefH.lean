/- The reference implementation of layer 1: plus, minus: walks. -/
import Derived.Test.YtldohkfomdcpoaaGreatDoorRefG
import Derived.Test.YtldohkfomdcpoaaGreatDoorLong
import Derived.OwnWalk
import Derived.IntWalk
namespace Go.Proofs.YtldohkfomdcpoaaGreatDoor
open Go.RowKit
open Num (Part)

/-- the slice value v owns the numbers zs -/
def Own (w : World) (base : Nat) (v : Value) (zs : List Int) : Prop := w.ownsRow base 3 1 v zs.length (zs.map (Value.int .i64))

/-- the result of a function that makes a new row: a slice with these numbers -/
def NewRd (w : World) (zs : List Int) (e : Ending) (w' : World) : Prop :=
  ∃ xa cap, e = .returned (.slice xa zs.length cap) ∧ Rd w' xa cap zs ∧ Below w.heap.size w w' ∧ (∀ b o, xa = some ⟨b, o, none⟩ → w.heap.size ≤ b) ∧ (xa = none → cap = 0)

theorem addr_add (g j : Nat) : (⟨g, 0, none⟩ : Addr).add j = ⟨g, j, none⟩ := by unfold Addr.add; split <;> simp_all
theorem Own.rd {w : World} {base : Nat} {v : Value} {zs : List Int} (h : Own w base v zs) (hl : zs.length ≤ 1000000) : ∃ xa cap, v = .slice xa zs.length cap ∧ Rd w xa cap zs := by
  rcases h.2 with ⟨rfl, h0⟩ | ⟨g, cap, cur, rfl, hb, hg, hnc, hcm, hcs, ht⟩
  · exact ⟨none, 0, by rw [h0], hl, fun hp => by omega⟩
  · refine ⟨some ⟨g, 0, none⟩, cap, rfl, hl, fun _ => ⟨g, 0, rfl, (Array.getElem?_eq_some_iff.1 hg).1, hnc, hcm, hl, fun i hi => ?_⟩⟩
    have := World.ownsRow.cells h (g := g) rfl i (.int .i64 (zs.getD i 0)) (by simp [List.getD, hi])
    rw [Nat.zero_add, ← this, addr_add]
theorem Own.at {w : World} {base : Nat} {n c : Nat} {xa : Option Addr} {zs : List Int} (h : Own w base (.slice xa n c) zs) : ∀ b o, xa = some ⟨b, o, none⟩ → base ≤ b := by
  rintro b o rfl
  exact (World.ownsRow.lt h b rfl).1
theorem Own.nilcap {w : World} {base : Nat} {n c : Nat} {xa : Option Addr} {zs : List Int} (h : Own w base (.slice xa n c) zs) : xa = none → c = 0 := by
  rintro rfl
  rcases h.2 with ⟨e, _⟩ | ⟨g, cap, cur, e, _⟩
  · injection e
  · injection e with e; exact absurd e (by simp)
theorem Own.kept {w w' : World} {base : Nat} {v : Value} {l : List Int} (h : Own w base v l) (hb : Below w.heap.size w w') : Own w' base v l := by
  refine World.ownsRow.kept h (grown_of_below hb none) ?_
  cases hv : v.ownBlock with
  | none => exact .inl rfl
  | some b => exact .inr (by simp)
theorem Own.alloc {w : World} {base : Nat} {v : Value} {l : List Int} (h : Own w base v l) (o : Obj) : Own (w.alloc o) base v l := World.ownsRow.alloc h o
theorem Own.empty (w : World) : Own (w.alloc (.cells #[] 3)) w.heap.size (.slice (some ⟨w.heap.size, 0, none⟩) 0 0) [] :=
  World.ownsRow_made w #[] 0 (Nat.le_refl _) (by unfold maxLen; omega) rfl
theorem Own.nil (w : World) (base : Nat) : Own w base (.slice none 0 0) [] := World.ownsRow_nil w base _ 1

theorem Own.add {w : World} {base : Nat} {v : Value} {l : List Int} (h : Own w base v l) (c : Int) (g : Nat) (hg : w.cell? ⟨g, 0, none⟩ = some (.int .i64 c)) (ty : TypeId) (hs : l.length + 1 ≤ 10000000) (hb : base ≤ w.heap.size) :
    ∃ v' w', (Builtin.append_ #[80, 80] ty #[v, .slice (some ⟨g, 0, none⟩) 1 1]).run Tryz.prog w = .ok v' w' ∧ Own w' base v' (l ++ [c]) ∧ Below base w w' := by
  obtain ⟨i0, hi, hz0, hz1, hz2⟩ := info_parts info_int
  obtain ⟨v', w', h1, h2, h3, _⟩ := run_append_own (P := Tryz.prog) w base 80 ty 3 i0 (.int .i64 0) 1 8 Tryz.underlying80 hi hz0 hz1 hz2 rfl (by decide) v l.length _ h ⟨g, 0, none⟩ 1 1 [.int .i64 c] rfl
    (fun j u hj => by
      match j, hj with
      | 0, hj => simp at hj; subst hj; simpa [Addr.add] using hg
      | j + 1, hj => simp at hj)
    (fun u hu => by simp at hu; subst hu; rfl) (by unfold maxLen; omega) (by omega) hb
  refine ⟨v', w', h1, ?_, (Below.refl base w).grown h3 hb (fun k hk => (World.ownsRow.lt h k hk).1)⟩
  unfold Own
  rw [List.length_append, List.map_append]
  exact h2

theorem wp_addInt {w : World} {ops : Array Oper} {rest : List Oper} {o : Oper} {a : Act} {Q : Exit → Act → World → Prop} (hgd : o.guard = none) (sl x : Operand)
    (ho : o.op = .call { callee := .builtin .append, args := #[sl, x], argTypes := #[80, 80] })
    (base : Nat) (v : Value) (l : List Int) (hs : a.eval sl = v) (h : Own w base v l) (c : Int) (g : Nat) (hg : w.cell? ⟨g, 0, none⟩ = some (.int .i64 c)) (hx : a.eval x = .slice (some ⟨g, 0, none⟩) 1 1) (hl : l.length + 1 ≤ 10000000) (hb : base ≤ w.heap.size)
    (hK : ∀ v' w', Own w' base v' (l ++ [c]) → Below base w w' → wpList Tryz.prog ops Q rest (a.put o.dst v') w') : wpList Tryz.prog ops Q (o :: rest) a w := by
  refine wpList_plain hgd fun K hK' => ?_
  obtain ⟨v', w', hr, h2, h3⟩ := h.add c g hg o.type hl hb
  unfold Oper.wp execOp
  simp only [ho, resolve, invoke, builtin, Sem.run_bind, Sem.run_pure, Result.andThen_ok, List.map_toArray, List.map_cons, List.map_nil, hs, hx, hr]
  exact hK' _ _ (hK v' w' h2 h3)

theorem one_cell (w : World) (z : Int) (q : Nat) : ((w.drewN q).alloc (.cells #[.int .i64 z] 3)).cell? ⟨w.heap.size, 0, none⟩ = some (.int .i64 z) := by
  have h : Row ((w.drewN q).alloc (.cells #[.int .i64 z] 3)) w.heap.size [z] := by unfold Row; exact heap_alloc_new (w.drewN q) _
  exact h.cell (i := 0) (by simp)
/-- k places of a sum or difference are done -/
structure SumRel (w : World) (xs ys : List Int) (f : Int) (k : Nat) (c : Int) (ov : Value) (wr : World) (ws : List Int) : Prop where
  part : Part xs ys f k ws c
  own : Own wr w.heap.size ov ws
  below : Below w.heap.size w wr

set_option maxRecDepth 100000 in
set_option maxHeartbeats 1000000 in
theorem rPlus_any (w : World) (xa ya : Option Addr) (cap capy n m : Nat) (xs ys : List Int) (hn : xs.length = n) (hm : ys.length = m) (hx : Rd w xa cap xs) (hy : Rd w ya capy ys) (cx : Num.Can xs) (cy : Num.Can ys) (hlim : n ≤ 900000 ∧ m ≤ 900000) (zs : List Int) (hz : Num.Can zs) (hg : Num.gval zs = Num.gval xs + Num.gval ys) :
    Calls Tryz.prog 112 #[.slice xa n cap, .slice ya m capy] w (NewRd w zs) := by
  have HN := Lib.hid hn
  have HM := Lib.hid hm
  have HGZ := Lib.hid hg
  obtain ⟨l, hl⟩ : ∃ l, l = max n m := ⟨_, rfl⟩
  have hl1 : n ≤ l ∧ m ≤ l ∧ l ≤ 900000 := by omega
  clear hn hm hg hl
  have hst : SumRel w xs ys 1 0 0 (.slice (some ⟨w.heap.size, 0, none⟩) 0 0) (w.alloc (.cells #[] 3)) [] := ⟨Part.start _ _ _, Own.empty w, (Below.refl _ _).alloc (Nat.le_refl _) _⟩
  have HS := Lib.hid hst
  clear hst
  go_enter Tryz.func112, Tryz.ntmps112
  go_wp2_with fail
  go_loopw [5, 6, 7] (fun ov cv iv wr => ∃ (k : Nat) (c : Int) (ws : List Int), iv = .int .i64 k ∧ cv = .int .i64 c ∧ k ≤ l + 1 ∧ (k = l + 1 → c = 0) ∧ 0 ≤ c ∧ c ≤ 1 ∧ SumRel w xs ys 1 k c ov wr ws) (fun _ _ iv _ => l + 2 - (intOf iv).toNat)
  case atStart => exact ⟨0, 0, [], rfl, rfl, by omega, fun _ => rfl, by omega, by omega, HS.out⟩
  case round =>
    clear HS
    obtain ⟨k, c, ws, rfl, rfl, hk, hkc, hc0, hc1, hr⟩ := hrel
    have hwl : ws.length = k := hr.part.len
    have HR := Lib.hid hr
    have HW := Lib.hid hwl
    have HKC := Lib.hid hkc
    clear hr hwl hkc
    by_cases hgo : k < n ∨ k < m ∨ 0 < c
    · have hkl : k ≤ l := by
        by_cases h : k = l + 1
        · have := HKC.out h; omega
        · omega
      have hw3 : (k < n) ∨ (¬ k < n ∧ k < m) ∨ (¬ k < n ∧ ¬ k < m ∧ 0 < c) := by omega
      obtain ⟨s, hs⟩ : ∃ s, s = xs.getD k 0 := ⟨_, rfl⟩
      obtain ⟨t, ht⟩ : ∃ t, t = ys.getD k 0 := ⟨_, rfl⟩
      have hsb := cx.1.getD k
      have htb := cy.1.getD k
      rw [← hs] at hsb
      rw [← ht] at htb
      unfold Num.B at hsb htb
      obtain ⟨N, hN⟩ : ∃ N, s + t + c = N := ⟨_, rfl⟩
      obtain ⟨X, hX⟩ : ∃ X, N % 1000000000 = X := ⟨_, rfl⟩
      obtain ⟨C, hC⟩ : ∃ C, N / 1000000000 = C := ⟨_, rfl⟩
      have hNb : 0 ≤ N ∧ N ≤ 1999999999 := by omega
      have hCb : 0 ≤ C ∧ C ≤ 1 := by omega
      have hCz : k = l → C = 0 := fun h => by
        have h1 : s = 0 := by rw [hs]; have := HN.out; simp [List.getD, List.getElem?_eq_none (show xs.length ≤ k by omega)]
        have h2 : t = 0 := by rw [ht]; have := HM.out; simp [List.getD, List.getElem?_eq_none (show ys.length ≤ k by omega)]
        omega
      have hp : Part xs ys 1 (k + 1) (ws ++ [X]) C := by
        have := HR.out.part.step (s := s) (t := t) (n := N) hs ht hsb.1 (by unfold Num.B; omega) (by omega) (by omega)
        unfold Num.B at this
        rw [hX, hC] at this; exact this
      have HP := Lib.hid hp
      have HCZ := Lib.hid hCz
      have HS := Lib.hid hs
      have HT := Lib.hid ht
      have hO := HR.out.own.alloc (.cells #[.int .i64 X] 3)
      have HO := Lib.hid hO
      have hB := HR.out.below.alloc HR.out.below.size (.cells #[.int .i64 X] 3)
      have HB := Lib.hid hB
      have hx1 := hx.below HR.out.below
      have hy1 := hy.below HR.out.below
      clear hs ht hp hO hB hCz hgo
      rcases hw3 with h1 | ⟨h1, h2⟩ | ⟨h1, h2, h3⟩
      all_goals
        go_wp2_with fail
        refine (rGroup_any wr xa cap n k xs HN.out hx1).mono ?_
        rintro e _ ⟨rfl, rfl⟩
        rw [← HS.out]
        go_wp2_with fail
        refine (rGroup_any wr ya capy m k ys HM.out hy1).mono ?_
        rintro e _ ⟨rfl, rfl⟩
        rw [← HT.out]
        go_wp2_with (at_builtin; refine wp_addInt rfl _ _ rfl w.heap.size _ _ rfl HO.out X wr.heap.size (by simp) rfl (by have := HW.out; omega) HB.out.size ?_; intro v1 W1 hO1 hB1; have HO1 := Lib.hid hO1; have HB1 := Lib.hid (HB.out.trans hB1); clear hO1 hB1)
        go_roundw
        case rel => exact ⟨k + 1, C, ws ++ [X], by go_num, by rw [hC], by omega, fun h => HCZ.out (by omega), by omega, by omega, HP.out, HO1.out, HB1.out⟩
        case measure => simp [intOf]; omega
    · have h1 : ¬ k < n := by omega
      have h2 : ¬ k < m := by omega
      have h3 : ¬ 0 < c := by omega
      have h4 : c = 0 := by omega
      obtain ⟨va, vc, hv, hrd⟩ := HR.out.own.rd (by have := HW.out; omega)
      have htr : Num.trimmed ws = zs := by
        refine Num.gval_inj (Num.Can.trimmed HR.out.part.norm) hz ?_
        have := HR.out.part.eq
        rw [List.take_of_length_le (by have := HN.out; omega), List.take_of_length_le (by have := HM.out; omega), h4] at this
        rw [Num.gval_trimmed, HGZ.out]; omega
      have hpre := hrd.prefix (Num.trimmed_prefix ws)
      rw [htr] at hpre
      have HTR := Lib.hid htr
      subst hv
      have HAT := Lib.hid (Own.at HR.out.own)
      have HNC := Lib.hid (Own.nilcap HR.out.own)
      clear hgo h4 htr
      go_wp2_with fail
      refine (rTrim_any wr va vc ws.length ws rfl hrd).mono ?_
      rintro e _ ⟨rfl, rfl⟩
      go_wp2_with fail
      go_ret
      exact ⟨va, vc, by rw [HTR.out]; rfl, hpre, HR.out.below, HAT.out, HNC.out⟩

set_option maxRecDepth 100000 in
set_option maxHeartbeats 1000000 in
theorem rMinus_any (w : World) (xa ya : Option Addr) (cap capy n m : Nat) (xs ys : List Int) (hn : xs.length = n) (hm : ys.length = m) (hx : Rd w xa cap xs) (hy : Rd w ya capy ys) (cx : Num.Can xs) (cy : Num.Can ys) (hlim : n ≤ 900000) (zs : List Int) (hz : Num.Can zs) (hg : Num.gval zs = Num.gval xs - Num.gval ys) :
    Calls Tryz.prog 111 #[.slice xa n cap, .slice ya m capy] w (NewRd w zs) := by
  have hmn : m ≤ n := by
    by_cases h : n < m
    · have := Num.gval_lt_of_length cx cy (by omega)
      have := Num.gval_nonneg hz.1
      omega
    · omega
  have hz0 := Num.gval_nonneg hz.1
  have HN := Lib.hid hn
  have HM := Lib.hid hm
  have HGZ := Lib.hid hg
  have HZ0 := Lib.hid hz0
  clear hn hm hg hz0
  have hst : SumRel w xs ys (-1) 0 0 (.slice (some ⟨w.heap.size, 0, none⟩) 0 0) (w.alloc (.cells #[] 3)) [] := ⟨Part.start _ _ _, Own.empty w, (Below.refl _ _).alloc (Nat.le_refl _) _⟩
  have HS := Lib.hid hst
  clear hst
  go_enter Tryz.func111, Tryz.ntmps111
  go_wp2_with fail
  go_loopw [5, 6, 7] (fun ov cv iv wr => ∃ (k : Nat) (c : Int) (ws : List Int), iv = .int .i64 k ∧ cv = .int .i64 c ∧ k ≤ n ∧ 0 ≤ c ∧ c ≤ 1 ∧ SumRel w xs ys (-1) k (-c) ov wr ws) (fun _ _ iv _ => n - (intOf iv).toNat)
  case atStart => exact ⟨0, 0, [], rfl, rfl, by omega, by omega, by omega, HS.out⟩
  case round =>
    clear HS
    obtain ⟨k, c, ws, rfl, rfl, hk, hc0, hc1, hr⟩ := hrel
    have hwl : ws.length = k := hr.part.len
    have HR := Lib.hid hr
    have HW := Lib.hid hwl
    clear hr hwl
    by_cases hgo : k < n
    · obtain ⟨s, hs⟩ : ∃ s, s = xs.getD k 0 := ⟨_, rfl⟩
      obtain ⟨t, ht⟩ : ∃ t, t = ys.getD k 0 := ⟨_, rfl⟩
      have hsb := cx.1.getD k
      have htb := cy.1.getD k
      rw [← hs] at hsb
      rw [← ht] at htb
      unfold Num.B at hsb htb
      obtain ⟨b, o, rfl, hsr⟩ := hx.sl (by have := HN.out; omega)
      have hcell : wr.cell? ⟨b, o + k, none⟩ = some (.int .i64 s) := by
        rw [hs]; exact (hsr.below HR.out.below hsr.lt).cell k (by have := HN.out; omega)
      obtain ⟨N, hN⟩ : ∃ N, s - t - c = N := ⟨_, rfl⟩
      have hNb : -1000000000 ≤ N ∧ N ≤ 999999999 := by omega
      have HS := Lib.hid hs
      have HT := Lib.hid ht
      have hgr : ∀ q, Calls Tryz.prog 101 #[.slice ya m capy, .int .i64 k] (wr.drewN q) fun e w' => e = .returned (.int .i64 t) ∧ w' = wr.drewN q := fun q => by
        rw [ht]; exact (rGroup_any _ ya capy m k ys HM.out ((hy.below HR.out.below).drewN q)).mono fun _ _ h => ⟨h.1, h.2.symm⟩
      have HGR := Lib.hid hgr
      have hw1 : IntKind.i64.wrap (s - t) = s - t := IntWalk.i64_in _ (by omega)
      have hw2 : IntKind.i64.wrap (s - t - c) = s - t - c := IntWalk.i64_in _ (by omega)
      have hcapb : n ≤ cap := by have := hsr.le; have := HN.out; omega
      have hcapm := hsr.max
      clear hs ht hgr
      by_cases hneg : N < 0
      · have hp : Part xs ys (-1) (k + 1) (ws ++ [(N + 1000000000)]) (-1) := by
          have := HR.out.part.step (s := s) (t := t) (n := N) HS.out HT.out hsb.1 (by unfold Num.B; omega) (by omega) (by omega)
          unfold Num.B at this
          rw [show N % 1000000000 = (N + 1000000000) by omega, show N / 1000000000 = -1 by omega] at this; exact this
        have HP := Lib.hid hp
        have hO := fun (q : Nat) => And.intro ((HR.out.own.kept (below_drewN (Below.refl wr.heap.size wr) q)).alloc (.cells #[.int .i64 (N + 1000000000)] 3)) ((below_drewN HR.out.below q).alloc HR.out.below.size (.cells #[.int .i64 (N + 1000000000)] 3))
        have HO := Lib.hid hO
        clear hp hO
        go_wp2_with fail
        go_quiet ((go_at_call 101; exact Calls.quiet_of_same (HGR.out _)))
        go_wp2_with (at_builtin; refine wp_addInt rfl _ _ rfl w.heap.size _ _ rfl (HO.out _).1 (N + 1000000000) wr.heap.size (one_cell wr (N + 1000000000) _) rfl (by have := HW.out; omega) (HO.out _).2.size ?_; intro v1 W1 hO1 hB1; have HO1 := Lib.hid hO1; have HB1 := Lib.hid ((HO.out _).2.trans hB1); clear hO1 hB1)
        go_roundw
        case rel => exact ⟨k + 1, 1, ws ++ [(N + 1000000000)], by go_num, rfl, by omega, by omega, by omega, HP.out, HO1.out, HB1.out⟩
        case measure => simp [intOf]; omega
      · have hp : Part xs ys (-1) (k + 1) (ws ++ [N]) (-0) := by
          have := HR.out.part.step (s := s) (t := t) (n := N) HS.out HT.out hsb.1 (by unfold Num.B; omega) (by omega) (by omega)
          unfold Num.B at this
          rw [show N % 1000000000 = N by omega, show N / 1000000000 = -0 by omega] at this; exact this
        have HP := Lib.hid hp
        have hO := fun (q : Nat) => And.intro ((HR.out.own.kept (below_drewN (Below.refl wr.heap.size wr) q)).alloc (.cells #[.int .i64 N] 3)) ((below_drewN HR.out.below q).alloc HR.out.below.size (.cells #[.int .i64 N] 3))
        have HO := Lib.hid hO
        clear hp hO
        go_wp2_with fail
        go_quiet ((go_at_call 101; exact Calls.quiet_of_same (HGR.out _)))
        go_wp2_with (at_builtin; refine wp_addInt rfl _ _ rfl w.heap.size _ _ rfl (HO.out _).1 N wr.heap.size (one_cell wr N _) rfl (by have := HW.out; omega) (HO.out _).2.size ?_; intro v1 W1 hO1 hB1; have HO1 := Lib.hid hO1; have HB1 := Lib.hid ((HO.out _).2.trans hB1); clear hO1 hB1)
        go_roundw
        case rel => exact ⟨k + 1, 0, ws ++ [N], by go_num, rfl, by omega, by omega, by omega, HP.out, HO1.out, HB1.out⟩
        case measure => simp [intOf]; omega
    · obtain rfl : k = n := by omega
      obtain ⟨va, vc, hv, hrd⟩ := HR.out.own.rd (by have := HW.out; omega)
      have h4 : c = 0 := by
        have h5 := HR.out.part.eq
        rw [List.take_of_length_le (by have := HN.out; omega), List.take_of_length_le (by have := HM.out; omega)] at h5
        have h6 := Num.gval_lt HR.out.part.norm
        rw [HW.out] at h6
        have h7 := HZ0.out
        rw [HGZ.out] at h7
        by_cases h : c = 0
        · exact h
        · obtain rfl : c = 1 := by omega
          exfalso
          rw [Int.mul_neg, Int.mul_one] at h5
          omega
      have htr : Num.trimmed ws = zs := by
        refine Num.gval_inj (Num.Can.trimmed HR.out.part.norm) hz ?_
        have := HR.out.part.eq
        rw [List.take_of_length_le (by have := HN.out; omega), List.take_of_length_le (by have := HM.out; omega), h4] at this
        rw [Num.gval_trimmed, HGZ.out]; omega
      have hpre := hrd.prefix (Num.trimmed_prefix ws)
      rw [htr] at hpre
      have HTR := Lib.hid htr
      subst hv
      have HAT := Lib.hid (Own.at HR.out.own)
      have HNC := Lib.hid (Own.nilcap HR.out.own)
      clear hgo h4 htr
      go_wp2_with fail
      refine (rTrim_any wr va vc ws.length ws rfl hrd).mono ?_
      rintro e _ ⟨rfl, rfl⟩
      go_wp2_with fail
      go_ret
      exact ⟨va, vc, by rw [HTR.out]; rfl, hpre, HR.out.below, HAT.out, HNC.out⟩

end Go.Proofs.YtldohkfomdcpoaaGreatDoor
