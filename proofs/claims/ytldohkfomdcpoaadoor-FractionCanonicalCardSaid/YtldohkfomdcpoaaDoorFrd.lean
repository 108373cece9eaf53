/- The plain mathematics of fractions: quotients of any sign, powers with exponents of any sign. It imports nothing of the program. -/
import Derived.Test.YtldohkfomdcpoaaDoorFrb
namespace Go.Proofs.YtldohkfomdcpoaaDoor.Fra

/-- n / d in lowest terms, for a d other than 0 -/
def redS (n d : Int) : Int × Int := if d < 0 then red (-n) (-d) else red n d

theorem redS_pos {n d : Int} (h : d ≠ 0) : 0 < (redS n d).2 := by
  unfold redS; split
  · exact red_pos (by omega)
  · exact red_pos (by omega)
theorem redS_cross {n d : Int} : (redS n d).1 * d = n * (redS n d).2 := by
  unfold redS; split
  · have := red_cross (n := -n) (d := -d)
    rw [Int.mul_neg, Int.neg_mul] at this; omega
  · exact red_cross
theorem redS_coprime {n d : Int} (h : d ≠ 0) : Int.gcd (redS n d).1 (redS n d).2 = 1 := by
  unfold redS; split
  · exact red_coprime (by omega)
  · exact red_coprime (by omega)
theorem redS_eq {n d m e : Int} (hd : d ≠ 0) (he : e ≠ 0) (h : n * e = m * d) : redS n d = redS m e := by
  have h1 := redS_cross (n := n) (d := d)
  have h2 := redS_cross (n := m) (d := e)
  have := lowest_unique (redS_pos hd) (redS_pos he) (redS_coprime hd) (redS_coprime he) (by
    have h3 : ((redS n d).1 * (redS m e).2) * (d * e) = ((redS m e).1 * (redS n d).2) * (d * e) := by grind
    exact Int.eq_of_mul_eq_mul_right (Int.mul_ne_zero hd he) h3)
  exact Prod.ext this.1 this.2
theorem redS_red {n d : Int} (hd : 0 < d) : redS n d = red n d := by unfold redS; rw [if_neg (by omega)]
theorem mulP_redS {n d m e : Int} (hd : d ≠ 0) (he : e ≠ 0) : mulP (redS n d) (redS m e) = redS (n * m) (d * e) := by
  unfold mulP
  rw [← redS_red (Int.mul_pos (redS_pos hd) (redS_pos he))]
  have h1 := redS_cross (n := n) (d := d)
  have h2 := redS_cross (n := m) (d := e)
  have h3 := redS_pos (n := n) hd
  have h4 := redS_pos (n := m) he
  refine redS_eq (by have := Int.mul_pos h3 h4; omega) (Int.mul_ne_zero hd he) ?_
  grind

/-- the power of a / b, not in lowest terms -/
def powU (a b e : Int) : Int × Int := if 0 ≤ e then (a ^ e.toNat, b ^ e.toNat) else (b ^ (-e).toNat, a ^ (-e).toNat)

theorem pow_ne {a : Int} (h : a ≠ 0) (n : Nat) : a ^ n ≠ 0 := by
  induction n with
  | zero => simp
  | succ n ih => rw [Int.pow_succ]; exact Int.mul_ne_zero ih h
theorem powU_ne {a b e : Int} (ha : a ≠ 0 ∨ 0 ≤ e) (hb : b ≠ 0) : (powU a b e).2 ≠ 0 := by
  unfold powU; split
  · exact pow_ne hb _
  · rcases ha with h | h
    · exact pow_ne h _
    · omega
/-- exponents add up -/
theorem powU_add {a b i k : Int} : (powU a b i).1 * (powU a b k).1 * (powU a b (i + k)).2 = (powU a b (i + k)).1 * ((powU a b i).2 * (powU a b k).2) := by
  unfold powU
  by_cases hi : 0 ≤ i <;> by_cases hk : 0 ≤ k <;> by_cases hs : 0 ≤ i + k
  · rw [if_pos hi, if_pos hk, if_pos hs, show (i + k).toNat = i.toNat + k.toNat by omega, Int.pow_add, Int.pow_add]
  · omega
  · rw [if_pos hi, if_neg hk, if_pos hs, show i.toNat = (i + k).toNat + (-k).toNat by omega, Int.pow_add, Int.pow_add]
    simp only
    grind
  · rw [if_pos hi, if_neg hk, if_neg hs, show (-k).toNat = i.toNat + (-(i + k)).toNat by omega, Int.pow_add, Int.pow_add]
    simp only
    grind
  · rw [if_neg hi, if_pos hk, if_pos hs, show k.toNat = (i + k).toNat + (-i).toNat by omega, Int.pow_add, Int.pow_add]
    simp only
    grind
  · rw [if_neg hi, if_pos hk, if_neg hs, show (-i).toNat = k.toNat + (-(i + k)).toNat by omega, Int.pow_add, Int.pow_add]
    simp only
    grind
  · omega
  · rw [if_neg hi, if_neg hk, if_neg hs, show (-(i + k)).toNat = (-i).toNat + (-k).toNat by omega, Int.pow_add, Int.pow_add]
theorem powS_add {a b i k : Int} (hb : b ≠ 0) (hi : a ≠ 0 ∨ 0 ≤ i) (hk : a ≠ 0 ∨ 0 ≤ k) (hs : a ≠ 0 ∨ 0 ≤ i + k) :
    mulP (redS (powU a b i).1 (powU a b i).2) (redS (powU a b k).1 (powU a b k).2) = redS (powU a b (i + k)).1 (powU a b (i + k)).2 := by
  rw [mulP_redS (powU_ne hi hb) (powU_ne hk hb)]
  exact redS_eq (Int.mul_ne_zero (powU_ne hi hb) (powU_ne hk hb)) (powU_ne hs hb) powU_add
theorem quo_mul {x y : Int × Int} (hx : 0 < x.2) (hy : 0 < y.2) (h0 : y.1 ≠ 0) : redS ((mulP x y).1 * y.2) ((mulP x y).2 * y.1) = low x := by
  have h1 := red_cross (n := x.1 * y.1) (d := x.2 * y.2)
  have h2 := red_pos (n := x.1 * y.1) (Int.mul_pos hx hy)
  unfold low mulP
  rw [← redS_red hx]
  refine redS_eq (Int.mul_ne_zero (by omega) h0) (by omega) ?_
  have h3 : (red (x.1 * y.1) (x.2 * y.2)).1 * y.2 * x.2 = x.1 * ((red (x.1 * y.1) (x.2 * y.2)).2 * y.1) := by grind
  exact h3

end Go.Proofs.YtldohkfomdcpoaaDoor.Fra
