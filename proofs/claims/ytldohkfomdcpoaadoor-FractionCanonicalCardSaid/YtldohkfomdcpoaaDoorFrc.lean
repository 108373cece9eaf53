/- The plain mathematics of fractions: order, rounding down, powers. It imports nothing of the program but the word for an order. -/
import Derived.Test.YtldohkfomdcpoaaDoorFrb
import Derived.Test.YtldohkfomdcpoaaDoorCompare
namespace Go.Proofs.YtldohkfomdcpoaaDoor.Fra

def cmpP (x y : Int × Int) : Int := cmp3 (x.1 * y.2) (y.1 * x.2)

theorem cmp3_sub (a b : Int) : cmp3 a b = cmp3 (a - b) 0 := by
  unfold cmp3
  by_cases h : a < b
  · rw [if_pos h, if_pos (by omega)]
  · by_cases h2 : b < a
    · rw [if_neg h, if_pos h2, if_neg (by omega), if_pos (by omega)]
    · rw [if_neg h, if_neg h2, if_neg (by omega), if_neg (by omega)]
theorem cmp3_scale0 {a k : Int} (hk : 0 < k) : cmp3 (a * k) 0 = cmp3 a 0 := by
  rcases Int.lt_trichotomy a 0 with h | h | h
  · rw [cmp3_lt h, cmp3_lt (Int.mul_neg_of_neg_of_pos h hk)]
  · subst h; simp
  · rw [cmp3_gt h, cmp3_gt (Int.mul_pos h hk)]
theorem cmp3_scale {a b k : Int} (hk : 0 < k) : cmp3 (a * k) (b * k) = cmp3 a b := by
  rw [cmp3_sub, ← Int.sub_mul, cmp3_scale0 hk, ← cmp3_sub]
theorem cmp3_range (a b : Int) : -1 ≤ cmp3 a b ∧ cmp3 a b ≤ 1 := by unfold cmp3; split <;> (try split) <;> omega
theorem cmp3_le (a b : Int) : cmp3 a b ≤ 0 ↔ a ≤ b := by unfold cmp3; split <;> (try split) <;> omega
theorem cmp3_zero (a b : Int) : cmp3 a b = 0 ↔ a = b := by unfold cmp3; split <;> (try split) <;> omega
theorem cmp3_pos (a b : Int) : 0 < cmp3 a b ↔ b < a := by unfold cmp3; split <;> (try split) <;> omega

theorem cmpP_congr {x y z w : Int × Int} (hx : 0 < x.2) (hy : 0 < y.2) (hz : 0 < z.2) (hw : 0 < w.2) (h : Same x z) (k : Same y w) : cmpP x y = cmpP z w := by
  unfold cmpP
  unfold Same at h k
  rw [← cmp3_scale (a := x.1 * y.2) (k := z.2 * w.2) (Int.mul_pos hz hw), ← cmp3_scale (a := z.1 * w.2) (k := x.2 * y.2) (Int.mul_pos hx hy)]
  rw [show x.1 * y.2 * (z.2 * w.2) = z.1 * w.2 * (x.2 * y.2) by grind, show y.1 * x.2 * (z.2 * w.2) = w.1 * z.2 * (x.2 * y.2) by grind]
theorem cmpP_swap (x y : Int × Int) : cmpP y x = - cmpP x y := by unfold cmpP; exact cmp3_swap _ _
/-- the order is the sign of the difference -/
theorem cmpP_sign {x y : Int × Int} (hx : 0 < x.2) (hy : 0 < y.2) : cmpP x y = cmp3 (addP x (negP y)).1 0 := by
  rw [addP_congr hx (negP_pos hy) (z := x) (w := (-y.1, y.2)) hx hy rfl (same_red _ _)]
  have h := red_left (n := x.1 * y.2 + -y.1 * x.2) (d := x.2 * y.2)
  have hg := gcd_pos (n := x.1 * y.2 + -y.1 * x.2) (Int.mul_pos hx hy)
  unfold addP cmpP
  rw [cmp3_sub, ← cmp3_scale0 (a := (red _ _).1) hg]
  rw [show x.1 * y.2 - y.1 * x.2 = x.1 * y.2 + -y.1 * x.2 by grind]
  conv => lhs; rw [h]
theorem cmpP_add {x y h : Int × Int} (hx : 0 < x.2) (hy : 0 < y.2) (hh : 0 < h.2) : cmpP (addP x h) (addP y h) = cmpP x y := by
  rw [cmpP_congr (addP_pos hx hh) (addP_pos hy hh) (z := (x.1 * h.2 + h.1 * x.2, x.2 * h.2)) (w := (y.1 * h.2 + h.1 * y.2, y.2 * h.2)) (Int.mul_pos hx hh) (Int.mul_pos hy hh) (same_red _ _) (same_red _ _)]
  unfold cmpP
  rw [cmp3_sub, cmp3_sub (x.1 * y.2), ← cmp3_scale0 (a := x.1 * y.2 - y.1 * x.2) (k := h.2 * h.2) (Int.mul_pos hh hh)]
  congr 1
  grind
theorem cmpP_mul {x y h : Int × Int} (hx : 0 < x.2) (hy : 0 < y.2) (hh : 0 < h.2) (h0 : 0 < h.1) : cmpP (mulP x h) (mulP y h) = cmpP x y := by
  rw [cmpP_congr (mulP_pos hx hh) (mulP_pos hy hh) (z := (x.1 * h.1, x.2 * h.2)) (w := (y.1 * h.1, y.2 * h.2)) (Int.mul_pos hx hh) (Int.mul_pos hy hh) (same_red _ _) (same_red _ _)]
  unfold cmpP
  rw [cmp3_sub, cmp3_sub (x.1 * y.2), ← cmp3_scale0 (a := x.1 * y.2 - y.1 * x.2) (k := h.1 * h.2) (Int.mul_pos h0 hh)]
  congr 1
  grind
theorem cmpP_trans {x y z : Int × Int} (hx : 0 < x.2) (hy : 0 < y.2) (hz : 0 < z.2) (h : cmpP x y ≤ 0) (k : cmpP y z ≤ 0) : cmpP x z = min (cmpP x y) (cmpP y z) := by
  unfold cmpP at *
  rw [cmp3_le] at h k
  have h1 := Int.mul_le_mul_of_nonneg_right h (Int.le_of_lt hz)
  have h2 := Int.mul_le_mul_of_nonneg_right k (Int.le_of_lt hx)
  have e1 : x.1 * y.2 * z.2 = x.1 * z.2 * y.2 := by grind
  have e2 : z.1 * y.2 * x.2 = z.1 * x.2 * y.2 := by grind
  have e3 : y.1 * x.2 * z.2 = y.1 * z.2 * x.2 := by grind
  rw [← cmp3_scale (a := x.1 * z.2) (k := y.2) hy, ← cmp3_scale (a := x.1 * y.2) (k := z.2) hz, ← cmp3_scale (a := y.1 * z.2) (k := x.2) hx, ← e1, ← e2, ← e3]
  rw [e3, e1] at h1
  generalize x.1 * y.2 * z.2 = A at *
  generalize y.1 * x.2 * z.2 = Bb at *
  generalize z.1 * y.2 * x.2 = C at *
  unfold cmp3
  split <;> split <;> split <;> (try split) <;> (try split) <;> (try split) <;> omega

/-- rounding down -/
theorem floor_bounds {n d : Int} (hd : 0 < d) : Int.fdiv n d * d ≤ n ∧ n < (Int.fdiv n d + 1) * d := by
  have h1 := Int.fmod_add_mul_fdiv n d
  have h2 := Int.fmod_nonneg_of_pos n hd
  have h3 := Int.fmod_lt_of_pos n hd
  rw [Int.mul_comm d] at h1
  rw [Int.add_mul]
  omega
theorem floor_unique {n d q : Int} (hd : 0 < d) (h1 : q * d ≤ n) (h2 : n < (q + 1) * d) : Int.fdiv n d = q := by
  obtain ⟨h3, h4⟩ := floor_bounds (n := n) hd
  have a : Int.fdiv n d < q + 1 := Int.lt_of_mul_lt_mul_right (a := d) (by omega) (by omega)
  have b : q < Int.fdiv n d + 1 := Int.lt_of_mul_lt_mul_right (a := d) (by omega) (by omega)
  omega
theorem floor_congr {x y : Int × Int} (hx : 0 < x.2) (hy : 0 < y.2) (h : Same x y) : Int.fdiv x.1 x.2 = Int.fdiv y.1 y.2 := by
  obtain ⟨h3, h4⟩ := floor_bounds (n := y.1) hy
  unfold Same at h
  apply floor_unique hx
  · have h5 := Int.mul_le_mul_of_nonneg_right h3 (Int.le_of_lt hx)
    rw [← h] at h5
    exact Int.le_of_mul_le_mul_right (a := y.2) (by rw [show Int.fdiv y.1 y.2 * x.2 * y.2 = Int.fdiv y.1 y.2 * y.2 * x.2 by grind]; exact h5) hy
  · have h5 := Int.mul_lt_mul_of_pos_right h4 hx
    rw [← h] at h5
    exact Int.lt_of_mul_lt_mul_right (a := y.2) (by rw [show (Int.fdiv y.1 y.2 + 1) * x.2 * y.2 = (Int.fdiv y.1 y.2 + 1) * y.2 * x.2 by grind]; exact h5) (by omega)
theorem floor_add (n a d : Int) (hd : 0 < d) : Int.fdiv (n + a * d) d = Int.fdiv n d + a := by
  obtain ⟨h1, h2⟩ := floor_bounds (n := n) hd
  apply floor_unique hd
  · rw [Int.add_mul]; omega
  · rw [show Int.fdiv n d + a + 1 = (Int.fdiv n d + 1) + a by omega, Int.add_mul]; omega

end Go.Proofs.YtldohkfomdcpoaaDoor.Fra
