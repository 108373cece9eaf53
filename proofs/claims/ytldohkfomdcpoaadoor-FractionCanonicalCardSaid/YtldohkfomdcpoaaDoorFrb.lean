/- The plain mathematics of fractions: the four operations on pairs, their laws. It imports nothing of the program. -/
import Derived.Test.YtldohkfomdcpoaaDoorFra
namespace Go.Proofs.YtldohkfomdcpoaaDoor.Fra

def addP (x y : Int × Int) : Int × Int := red (x.1 * y.2 + y.1 * x.2) (x.2 * y.2)
def mulP (x y : Int × Int) : Int × Int := red (x.1 * y.1) (x.2 * y.2)
def negP (x : Int × Int) : Int × Int := red (-x.1) x.2
def low (x : Int × Int) : Int × Int := red x.1 x.2
/-- the order of two pairs -/
def ltP (x y : Int × Int) : Prop := x.1 * y.2 < y.1 * x.2

theorem low_pos {x : Int × Int} (h : 0 < x.2) : 0 < (low x).2 := red_pos h
theorem low_cross (x : Int × Int) : (low x).1 * x.2 = x.1 * (low x).2 := red_cross
theorem addP_pos {x y : Int × Int} (hx : 0 < x.2) (hy : 0 < y.2) : 0 < (addP x y).2 := red_pos (Int.mul_pos hx hy)
theorem mulP_pos {x y : Int × Int} (hx : 0 < x.2) (hy : 0 < y.2) : 0 < (mulP x y).2 := red_pos (Int.mul_pos hx hy)
theorem negP_pos {x : Int × Int} (hx : 0 < x.2) : 0 < (negP x).2 := red_pos hx

/-- pairs with one value -/
def Same (x y : Int × Int) : Prop := x.1 * y.2 = y.1 * x.2
theorem Same.low {x : Int × Int} : Same (low x) x := by unfold Same; rw [low_cross]
theorem same_red (n d : Int) : Same (red n d) (n, d) := red_cross
theorem low_eq {x y : Int × Int} (hx : 0 < x.2) (hy : 0 < y.2) (h : Same x y) : low x = low y := red_eq hx hy h
theorem low_inv {x y : Int × Int} (hy : 0 < y.2) (h : low x = low y) : Same x y := red_inv hy h

theorem addP_congr {x y z w : Int × Int} (hx : 0 < x.2) (hy : 0 < y.2) (hz : 0 < z.2) (hw : 0 < w.2) (h : Same x z) (k : Same y w) : addP x y = addP z w := by
  refine red_eq (Int.mul_pos hx hy) (Int.mul_pos hz hw) ?_
  unfold Same at h k
  grind
theorem mulP_congr {x y z w : Int × Int} (hx : 0 < x.2) (hy : 0 < y.2) (hz : 0 < z.2) (hw : 0 < w.2) (h : Same x z) (k : Same y w) : mulP x y = mulP z w := by
  refine red_eq (Int.mul_pos hx hy) (Int.mul_pos hz hw) ?_
  unfold Same at h k
  grind
theorem negP_congr {x z : Int × Int} (hx : 0 < x.2) (hz : 0 < z.2) (h : Same x z) : negP x = negP z := by
  refine red_eq hx hz ?_
  unfold Same at h
  grind

theorem addP_comm (x y : Int × Int) : addP x y = addP y x := by
  unfold addP; rw [Int.add_comm, Int.mul_comm y.2]
theorem mulP_comm (x y : Int × Int) : mulP x y = mulP y x := by
  unfold mulP; rw [Int.mul_comm, Int.mul_comm y.2]
theorem addP_assoc {x y z : Int × Int} (hx : 0 < x.2) (hy : 0 < y.2) (hz : 0 < z.2) : addP (addP x y) z = addP x (addP y z) := by
  rw [addP_congr (addP_pos hx hy) hz (z := (x.1 * y.2 + y.1 * x.2, x.2 * y.2)) (Int.mul_pos hx hy) hz (same_red _ _) rfl,
    addP_congr hx (addP_pos hy hz) hx (w := (y.1 * z.2 + z.1 * y.2, y.2 * z.2)) (Int.mul_pos hy hz) rfl (same_red _ _)]
  refine red_eq (Int.mul_pos (Int.mul_pos hx hy) hz) (Int.mul_pos hx (Int.mul_pos hy hz)) ?_
  grind
theorem mulP_assoc {x y z : Int × Int} (hx : 0 < x.2) (hy : 0 < y.2) (hz : 0 < z.2) : mulP (mulP x y) z = mulP x (mulP y z) := by
  rw [mulP_congr (mulP_pos hx hy) hz (z := (x.1 * y.1, x.2 * y.2)) (Int.mul_pos hx hy) hz (same_red _ _) rfl,
    mulP_congr hx (mulP_pos hy hz) hx (w := (y.1 * z.1, y.2 * z.2)) (Int.mul_pos hy hz) rfl (same_red _ _)]
  refine red_eq (Int.mul_pos (Int.mul_pos hx hy) hz) (Int.mul_pos hx (Int.mul_pos hy hz)) ?_
  grind
theorem mulP_addP {x y z : Int × Int} (hx : 0 < x.2) (hy : 0 < y.2) (hz : 0 < z.2) : mulP (addP x y) z = addP (mulP x z) (mulP y z) := by
  rw [mulP_congr (addP_pos hx hy) hz (z := (x.1 * y.2 + y.1 * x.2, x.2 * y.2)) (Int.mul_pos hx hy) hz (same_red _ _) rfl,
    addP_congr (mulP_pos hx hz) (mulP_pos hy hz) (z := (x.1 * z.1, x.2 * z.2)) (w := (y.1 * z.1, y.2 * z.2)) (Int.mul_pos hx hz) (Int.mul_pos hy hz) (same_red _ _) (same_red _ _)]
  refine red_eq (Int.mul_pos (Int.mul_pos hx hy) hz) (Int.mul_pos (Int.mul_pos hx hz) (Int.mul_pos hy hz)) ?_
  grind
theorem addP_zero {x : Int × Int} : addP x (0, 1) = low x := by unfold addP low; simp
theorem sub_add {x y : Int × Int} (hx : 0 < x.2) (hy : 0 < y.2) : addP (addP x y) (negP y) = low x := by
  rw [addP_congr (addP_pos hx hy) (negP_pos hy) (z := (x.1 * y.2 + y.1 * x.2, x.2 * y.2)) (w := (-y.1, y.2)) (Int.mul_pos hx hy) hy (same_red _ _) (same_red _ _)]
  refine red_eq (Int.mul_pos (Int.mul_pos hx hy) hy) hx ?_
  grind
theorem sub_swap {x y : Int × Int} (hx : 0 < x.2) (hy : 0 < y.2) : addP x (negP y) = negP (addP y (negP x)) := by
  rw [addP_congr hx (negP_pos hy) (z := x) (w := (-y.1, y.2)) hx hy rfl (same_red _ _),
    addP_congr hy (negP_pos hx) (z := y) (w := (-x.1, x.2)) hy hx rfl (same_red _ _)]
  have h2 : negP (addP y (-x.1, x.2)) = negP (y.1 * x.2 + -x.1 * y.2, y.2 * x.2) := negP_congr (addP_pos hy hx) (Int.mul_pos hy hx) (same_red _ _)
  rw [h2]
  refine red_eq (Int.mul_pos hx hy) (Int.mul_pos hy hx) ?_
  grind

end Go.Proofs.YtldohkfomdcpoaaDoor.Fra
