/- The order of digits of one length. -/
import Derived.Test.YtldohkfomdcpoaaGreatDoorRefC
namespace Go.Proofs.YtldohkfomdcpoaaGreatDoor
open Go.RowKit

theorem bytesLess_num : ∀ (x y : List UInt8), x.all Num.isDig = true → y.all Num.isDig = true → x.length = y.length → Op.bytesLess x y = decide (Num.num x < Num.num y)
  | [], [], _, _, _ => by simp [Op.bytesLess]
  | [], _ :: _, _, _, h => by simp at h
  | _ :: _, [], _, _, h => by simp at h
  | a :: x, b :: y, hx, hy, h => by
    simp only [List.all_cons, Bool.and_eq_true] at hx hy
    have ha := (Num.isDig_iff a).1 hx.1
    have hb := (Num.isDig_iff b).1 hy.1
    have hl : x.length = y.length := by simpa using h
    have ih := bytesLess_num x y hx.2 hy.2 hl
    have h1 := Num.num_lt x hx.2
    have h2 := Num.num_lt y hy.2
    rw [Num.num_cons, Num.num_cons]
    unfold Op.bytesLess
    rw [ih, Bool.eq_iff_iff]
    simp only [Bool.or_eq_true, Bool.and_eq_true, decide_eq_true_iff, beq_iff_eq]
    rw [hl] at h1 ⊢
    rw [UInt8.lt_iff_toNat_lt]
    generalize 10 ^ y.length = p at *
    unfold Num.dv
    by_cases c1 : a.toNat < b.toNat
    · have := Nat.mul_le_mul_right p (show a.toNat - 48 + 1 ≤ b.toNat - 48 by omega)
      rw [Nat.add_mul] at this
      exact ⟨fun _ => by omega, fun _ => .inl c1⟩
    · by_cases c2 : a = b
      · subst c2; simp
      · have c3 : b.toNat < a.toNat := by
          have : a.toNat ≠ b.toNat := fun e => c2 (UInt8.toNat_inj.1 e)
          omega
        have := Nat.mul_le_mul_right p (show b.toNat - 48 + 1 ≤ a.toNat - 48 by omega)
        rw [Nat.add_mul] at this
        exact ⟨fun h => by rcases h with h | h; omega; exact absurd h.1 c2, fun h => by omega⟩

theorem num_eq_iff : ∀ (x y : List UInt8), x.all Num.isDig = true → y.all Num.isDig = true → x.length = y.length → Num.num x = Num.num y → x = y
  | [], [], _, _, _, _ => rfl
  | [], _ :: _, _, _, h, _ => by simp at h
  | _ :: _, [], _, _, h, _ => by simp at h
  | a :: x, b :: y, hx, hy, h, e => by
    simp only [List.all_cons, Bool.and_eq_true] at hx hy
    have ha := (Num.isDig_iff a).1 hx.1
    have hb := (Num.isDig_iff b).1 hy.1
    have hl : x.length = y.length := by simpa using h
    have h1 := Num.num_lt x hx.2
    have h2 := Num.num_lt y hy.2
    rw [Num.num_cons, Num.num_cons] at e
    have ih := num_eq_iff x y hx.2 hy.2 hl
    rw [hl] at h1 e
    generalize 10 ^ y.length = p at *
    have e1 : a = b := by
      apply UInt8.toNat_inj.1
      unfold Num.dv at e
      by_cases c1 : a.toNat < b.toNat
      · have := Nat.mul_le_mul_right p (show a.toNat - 48 + 1 ≤ b.toNat - 48 by omega)
        rw [Nat.add_mul] at this; omega
      · by_cases c2 : b.toNat < a.toNat
        · have := Nat.mul_le_mul_right p (show b.toNat - 48 + 1 ≤ a.toNat - 48 by omega)
          rw [Nat.add_mul] at this; omega
        · omega
    subst e1
    rw [ih (by omega)]

theorem beq_num {x y : List UInt8} (hx : x.all Num.isDig = true) (hy : y.all Num.isDig = true) (h : x.length = y.length) : (x == y) = decide (Num.num x = Num.num y) := by
  rw [Bool.eq_iff_iff, beq_iff_eq, decide_eq_true_iff]
  exact ⟨fun e => by rw [e], num_eq_iff x y hx hy h⟩

end Go.Proofs.YtldohkfomdcpoaaGreatDoor
