/- The reference implementation of layer 1: long division by guessing: plain mathematics, and appending to a new row. -/
import Derived.Test.YtldohkfomdcpoaaGreatDoorRefM
import Derived.Laws.AppendOwnNone
namespace Go.Proofs.YtldohkfomdcpoaaGreatDoor
open Go.RowKit

/-- the places of the quotient from z on are done, and R is what is left of what was brought down -/
structure QInv (xs ys : List Int) (n z : Nat) (Q : List Int) (R : Int) : Prop where
  qlen : Q.length = n
  qnorm : Num.Norm Q
  r0 : 0 ≤ R
  r1 : R < Num.gval ys
  eq : Num.gval (xs.drop z) = Num.gval (Q.drop z) * Num.gval ys + R

theorem QInv.start {xs ys : List Int} {n : Nat} (hn : xs.length = n) (hy : 0 < Num.gval ys) : QInv xs ys n n (List.replicate n 0) 0 :=
  ⟨by simp, Num.Norm.zeros _, by omega, hy, by rw [List.drop_of_length_le (by omega), List.drop_of_length_le (by simp)]; simp [Num.gval]⟩

theorem QInv.step {xs ys : List Int} {n i : Nat} {Q : List Int} {R R' q : Int} (h : QInv xs ys n (i + 1) Q R) (hi : i < n) (hn : xs.length = n) (q0 : 0 ≤ q) (q1 : q < 1000000000) (hR : R' = xs.getD i 0 + 1000000000 * R)
    (h2 : q * Num.gval ys ≤ R') (h3 : R' < (q + 1) * Num.gval ys) : QInv xs ys n i (Q.set i q) (R' - q * Num.gval ys) := by
  have hql := h.qlen
  refine ⟨by simp [hql], ?_, by omega, by rw [Int.add_mul] at h3; omega, ?_⟩
  · intro z hz
    rcases List.mem_or_eq_of_mem_set hz with hz | rfl
    · exact h.qnorm z hz
    · exact ⟨q0, q1⟩
  · have e1 : xs.drop i = xs.getD i 0 :: xs.drop (i + 1) := by
      rw [List.drop_eq_getElem_cons (by omega)]; simp [List.getD, show i < xs.length by omega]
    have e2 : (Q.set i q).drop i = q :: Q.drop (i + 1) := by
      rw [List.drop_eq_getElem_cons (by simp; omega)]
      simp [List.drop_set]
    rw [e1, e2]
    simp only [Num.gval]
    have := h.eq
    rw [this, hR, Int.add_mul, Int.mul_add, Int.mul_assoc]
    unfold Num.B
    omega

/-- the group is between lo and hi -/
structure SInv (Y R : Int) (lo hi : Int) : Prop where
  lo0 : 0 ≤ lo
  le : lo ≤ hi
  hi1 : hi ≤ 999999999
  low : lo * Y ≤ R
  high : R < (hi + 1) * Y
theorem SInv.start {Y R : Int} (h0 : 0 ≤ R) (h : R < 1000000000 * Y) : SInv Y R 0 999999999 := ⟨by omega, by omega, by omega, by omega, by omega⟩
theorem SInv.up {Y R lo hi mid : Int} (h : SInv Y R lo hi) (h1 : lo < mid) (h2 : mid ≤ hi) (hm : Y * mid ≤ R) : SInv Y R mid hi := ⟨by have := h.lo0; omega, h2, h.hi1, by rw [Int.mul_comm]; exact hm, h.high⟩
theorem SInv.down {Y R lo hi mid : Int} (h : SInv Y R lo hi) (h1 : lo < mid) (h2 : mid ≤ hi) (hm : ¬ Y * mid ≤ R) : SInv Y R lo (mid - 1) := ⟨h.lo0, by omega, by have := h.hi1; omega, h.low, by rw [Int.sub_add_cancel, Int.mul_comm]; omega⟩

theorem Own.one (w : World) (x : Int) : Own (w.alloc (.cells #[.int .i64 x] 3)) w.heap.size (.slice (some ⟨w.heap.size, 0, none⟩) 1 1) [x] :=
  ⟨rfl, .inr ⟨w.heap.size, 1, #[.int .i64 x], rfl, Nat.le_refl _, heap_alloc_new w _, Nat.le_refl _, by unfold maxLen; omega, rfl, rfl⟩⟩

theorem Own.addMany {w : World} {base : Nat} {v : Value} {l ms : List Int} (h : Own w base v l) (xa : Option Addr) (cap n : Nat) (hn : ms.length = n) (hr : Rd w xa cap ms) (h0 : xa = none → cap = 0) (ty : TypeId) (hs : l.length + n ≤ 10000000) (hb : base ≤ w.heap.size) :
    ∃ v' w', (Builtin.append_ #[80, 80] ty #[v, .slice xa n cap]).run Tryz.prog w = .ok v' w' ∧ Own w' base v' (l ++ ms) ∧ Below base w w' := by
  obtain ⟨i0, hi, hz0, hz1, hz2⟩ := info_parts info_int
  cases xa with
  | none =>
    obtain rfl : cap = 0 := h0 rfl
    have hm0 : ms = [] := by
      cases ms with
      | nil => rfl
      | cons x ms => obtain ⟨b, o, e, _⟩ := hr.sl (by simp); cases e
    subst hm0
    obtain rfl : n = 0 := by simpa using hn.symm
    exact ⟨v, w, run_append_owned_none (P := Tryz.prog) (w := w) base 80 ty 3 i0 1 Tryz.underlying80 hi v _ _ h, by simpa using h, Below.refl _ _⟩
  | some a =>
    obtain ⟨v', w', h1, h2, h3, _⟩ := run_append_own (P := Tryz.prog) w base 80 ty 3 i0 (.int .i64 0) 1 8 Tryz.underlying80 hi hz0 hz1 hz2 rfl (by decide) v l.length _ h a n cap (ms.map (Value.int .i64)) (by simp [hn])
      (fun j u hj => by
        rw [List.getElem?_map] at hj
        obtain ⟨x, hx1, rfl⟩ := Option.map_eq_some_iff.1 hj
        have hlt := (List.getElem?_eq_some_iff.1 hx1).1
        obtain ⟨b, o, e, hsr⟩ := hr.sl (by omega)
        obtain rfl := Option.some.inj e
        have := hsr.cell j hlt
        have e : (⟨b, o, none⟩ : Addr).add j = ⟨b, o + j, none⟩ := by unfold Addr.add; split <;> simp_all
        rw [e, this]
        simp [List.getD, hx1])
      (fun u hu => by obtain ⟨x, _, rfl⟩ := List.mem_map.1 hu; rfl) (by unfold maxLen; omega) (by omega) hb
    refine ⟨v', w', h1, ?_, (Below.refl base w).grown h3 hb (fun k hk => (World.ownsRow.lt h k hk).1)⟩
    unfold Own
    rw [List.length_append, List.map_append, hn]
    exact h2

end Go.Proofs.YtldohkfomdcpoaaGreatDoor
