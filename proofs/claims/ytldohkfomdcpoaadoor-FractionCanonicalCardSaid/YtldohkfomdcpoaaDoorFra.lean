/- The plain mathematics of fractions: lowest terms. It imports nothing of the program. -/
import Derived.Test.YtldohkfomdcpoaaDoorNum
namespace Go.Proofs.YtldohkfomdcpoaaDoor.Fra

/-- numerator and denominator in lowest terms, for a positive denominator -/
def red (n d : Int) : Int × Int := (n / (Int.gcd n d : Int), d / (Int.gcd n d : Int))

theorem gcd_pos {n d : Int} (h : 0 < d) : (0 : Int) < (Int.gcd n d : Int) := by
  have : Int.gcd n d ≠ 0 := by
    intro e
    rw [Int.gcd_eq_zero_iff] at e
    omega
  omega
theorem red_left {n d : Int} : n = (red n d).1 * (Int.gcd n d : Int) := (Int.ediv_mul_cancel (Int.gcd_dvd_left _ _)).symm
theorem red_right {n d : Int} : d = (red n d).2 * (Int.gcd n d : Int) := (Int.ediv_mul_cancel (Int.gcd_dvd_right _ _)).symm
theorem red_pos {n d : Int} (h : 0 < d) : 0 < (red n d).2 := by
  have h1 := red_right (n := n) (d := d)
  have h2 := gcd_pos (n := n) h
  by_cases h3 : 0 < (red n d).2
  · exact h3
  · exfalso
    have := Int.mul_nonpos_of_nonpos_of_nonneg (show (red n d).2 ≤ 0 by omega) (show 0 ≤ (Int.gcd n d : Int) by omega)
    omega
theorem red_coprime {n d : Int} (h : 0 < d) : Int.gcd (red n d).1 (red n d).2 = 1 := by
  have h2 := gcd_pos (n := n) h
  have h3 : Int.gcd n d = Int.gcd (red n d).1 (red n d).2 * Int.gcd n d := by
    conv => lhs; rw [red_left (n := n) (d := d)]
    conv => lhs; arg 2; rw [red_right (n := n) (d := d)]
    rw [Int.gcd_mul_right]; simp
  have h4 : 0 < Int.gcd n d := by omega
  exact Nat.eq_of_mul_eq_mul_right h4 (by omega)
theorem red_cross {n d : Int} : (red n d).1 * d = n * (red n d).2 := by
  have h1 := red_left (n := n) (d := d)
  have h2 := red_right (n := n) (d := d)
  generalize (red n d).1 = p at *
  generalize (red n d).2 = q at *
  generalize (Int.gcd n d : Int) = g at *
  subst h1
  subst h2
  rw [Int.mul_comm q g, ← Int.mul_assoc]

theorem dvd_of_coprime {q p s : Int} (h : Int.gcd p q = 1) (hd : q ∣ p * s) : q ∣ s := by
  have h1 : q.natAbs ∣ p.natAbs * s.natAbs := by rw [← Int.natAbs_mul]; exact Int.natAbs_dvd_natAbs.2 hd
  have h2 : Nat.Coprime q.natAbs p.natAbs := by
    unfold Nat.Coprime
    rw [Nat.gcd_comm]; exact h
  exact Int.natAbs_dvd_natAbs.1 (Nat.Coprime.dvd_of_dvd_mul_left h2 h1)

/-- two pairs in lowest terms with one value are one pair -/
theorem lowest_unique {p q r s : Int} (hq : 0 < q) (hs : 0 < s) (h1 : Int.gcd p q = 1) (h2 : Int.gcd r s = 1) (h : p * s = r * q) : p = r ∧ q = s := by
  have a : q ∣ s := by
    have : q ∣ p * s := ⟨r, by rw [h, Int.mul_comm]⟩
    exact dvd_of_coprime h1 this
  have b : s ∣ q := by
    have : s ∣ r * q := ⟨p, by rw [← h, Int.mul_comm]⟩
    exact dvd_of_coprime h2 this
  have e : q = s := Int.dvd_antisymm (by omega) (by omega) a b
  subst e
  exact ⟨Int.eq_of_mul_eq_mul_right (by omega) h, rfl⟩

theorem red_eq {n d m e : Int} (hd : 0 < d) (he : 0 < e) (h : n * e = m * d) : red n d = red m e := by
  have := lowest_unique (red_pos hd) (red_pos he) (red_coprime hd) (red_coprime he) (by
    have h1 := red_cross (n := n) (d := d)
    have h2 := red_cross (n := m) (d := e)
    have h3 : ((red n d).1 * (red m e).2) * (d * e) = ((red m e).1 * (red n d).2) * (d * e) := by grind
    exact Int.eq_of_mul_eq_mul_right (by have := Int.mul_pos hd he; omega) h3)
  exact Prod.ext this.1 this.2
theorem red_inv {n d m e : Int} (he : 0 < e) (h : red n d = red m e) : n * e = m * d := by
  have h1 := red_cross (n := n) (d := d)
  have h2 := red_cross (n := m) (d := e)
  rw [h] at h1
  have h3 := red_pos (n := m) he
  have h4 : (n * e) * (red m e).2 = (m * d) * (red m e).2 := by grind
  exact Int.eq_of_mul_eq_mul_right (by omega) h4
theorem red_lowest {p q : Int} (h : Int.gcd p q = 1) : red p q = (p, q) := by
  unfold red; rw [h]; simp
theorem red_red {n d : Int} (hd : 0 < d) : red (red n d).1 (red n d).2 = red n d := red_lowest (red_coprime hd)
theorem red_zero {d : Int} (hd : 0 < d) : red 0 d = (0, 1) := by
  unfold red
  rw [Int.gcd_zero_left]
  have : ((d.natAbs : Nat) : Int) = d := by omega
  rw [this, Int.ediv_self (by omega)]; simp

end Go.Proofs.YtldohkfomdcpoaaDoor.Fra
