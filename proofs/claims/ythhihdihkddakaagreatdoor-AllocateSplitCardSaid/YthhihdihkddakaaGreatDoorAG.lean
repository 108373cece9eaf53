/- Layer 4: moving one unit makes the sum of the squares not less. -/
import Derived.Test.YthhihdihkddakaaGreatDoorAF
namespace Go.Proofs.YthhihdihkddakaaGreatDoor
open Fra

namespace Num
/-- W times the difference to the ideal part -/
def ovr (T : Int) (W : Nat) (w : Nat → Nat) (n i : Nat) : Int := splitP T W w n i * (W : Nat) - T * (w i : Nat)
theorem ovr_eq {T : Int} {W n : Nat} {w : Nat → Nat} (k : Nat) : ovr T W w n k = if T < 0 then -overP T.natAbs W w n k else overP T.natAbs W w n k := by
  unfold ovr splitP overP
  have e1 : ((W * partP T.natAbs W w n k : Nat) : Int) = (partP T.natAbs W w n k : Int) * (W : Int) := by rw [Int.natCast_mul, Int.mul_comm]
  have e2 : ((T.natAbs * w k : Nat) : Int) = (T.natAbs : Int) * (w k : Int) := Int.natCast_mul _ _
  rw [e1, e2]
  by_cases hT : T < 0
  · rw [if_pos hT, if_pos hT, show (T.natAbs : Int) = -T by omega, Int.neg_mul, Int.neg_mul]; omega
  · rw [if_neg hT, if_neg hT, show (T.natAbs : Int) = T by omega]
theorem split_nearest {T : Int} {W n i j : Nat} {w : Nat → Nat} (h0 : 0 < W) (hi : i < n) (hj : j < n) : ovr T W w n i - ovr T W w n j ≤ W := by
  rw [ovr_eq, ovr_eq]
  have h1 := part_nearest (T := T.natAbs) (w := w) h0 hi hj
  have h2 := part_nearest (T := T.natAbs) (w := w) h0 hj hi
  by_cases hT : T < 0
  · rw [if_pos hT, if_pos hT]; omega
  · rw [if_neg hT, if_neg hT]; omega
theorem sq_move {p q W : Int} (h0 : 0 < W) (h : p - q ≤ W) : p * p + q * q ≤ (p - W) * (p - W) + (q + W) * (q + W) := by
  have h1 : 0 ≤ W * (W - (p - q)) := Int.mul_nonneg (by omega) (by omega)
  simp only [Int.mul_sub] at h1
  simp only [Int.sub_mul, Int.mul_sub, Int.add_mul, Int.mul_add]
  rw [Int.mul_comm p W, Int.mul_comm q W]
  omega
end Num

/-- z less the ideal part -/
def dif (z T : Int) (W m : Nat) : Int × Int := subP (z, 1) (red (T * (m : Nat)) (W : Nat))
theorem dif_eq {z T : Int} {W m : Nat} (h0 : 0 < W) : dif z T W m = red (z * (W : Nat) - T * (m : Nat)) (W : Nat) := by
  have hp : 0 < (red (T * (m : Nat)) (W : Nat)).2 := red_pos (by omega)
  have hW : (0 : Int) < (W : Nat) := by omega
  unfold dif
  rw [subP_eq Int.one_pos hp, negP_congr (z := (T * (m : Nat), (W : Nat))) hp hW (same_red _ _),
    addP_congr (x := (z, 1)) (z := (z, 1)) (w := (-(T * (m : Nat)), (W : Nat))) Int.one_pos (negP_pos (x := (T * (m : Nat), ((W : Nat) : Int))) hW) Int.one_pos hW rfl (same_red _ _)]
  unfold addP
  simp only [Int.mul_one, Int.one_mul]
  rw [Int.sub_eq_add_neg]
theorem dif_pos {z T : Int} {W m : Nat} (h0 : 0 < W) : 0 < (dif z T W m).2 := by rw [dif_eq h0]; exact red_pos (by omega)
theorem sq_red {p W : Int} (h0 : 0 < W) : mulP (red p W) (red p W) = red (p * p) (W * W) := by
  rw [mulP_congr (z := (p, W)) (w := (p, W)) (red_pos h0) (red_pos h0) h0 h0 (same_red _ _) (same_red _ _)]
  rfl
theorem add_red {a b D : Int} (h0 : 0 < D) : addP (red a D) (red b D) = red (a * D + b * D) (D * D) := by
  rw [addP_congr (z := (a, D)) (w := (b, D)) (red_pos h0) (red_pos h0) h0 h0 (same_red _ _) (same_red _ _)]
  rfl
theorem cmp_red {a b E : Int} (h0 : 0 < E) (h : a ≤ b) : 0 ≤ cmpP (red b E) (red a E) := by
  rw [cmpP_congr (z := (b, E)) (w := (a, E)) (red_pos h0) (red_pos h0) h0 h0 (same_red _ _) (same_red _ _)]
  unfold cmpP cmp3
  have := Int.mul_le_mul_of_nonneg_right h (Int.le_of_lt h0)
  dsimp only
  rw [if_neg (by omega)]
  split <;> omega
/-- the two differences, squared and added up -/
def sqs (x y T : Int) (W m k : Nat) : Int × Int := addP (mulP (dif x T W m) (dif x T W m)) (mulP (dif y T W k) (dif y T W k))
theorem sqs_eq {x y T : Int} {W m k : Nat} (h0 : 0 < W) : sqs x y T W m k = red (((x * (W : Nat) - T * (m : Nat)) * (x * (W : Nat) - T * (m : Nat)) + (y * (W : Nat) - T * (k : Nat)) * (y * (W : Nat) - T * (k : Nat))) * ((W : Int) * (W : Int))) ((W : Int) * (W : Int) * ((W : Int) * (W : Int))) := by
  have hW : (0 : Int) < (W : Nat) := by omega
  unfold sqs
  rw [dif_eq h0, dif_eq h0, sq_red hW, sq_red hW, add_red (Int.mul_pos hW hW), Int.add_mul]
theorem sqs_move {T : Int} {W n i j : Nat} {w : Nat → Nat} (h0 : 0 < W) (hi : i < n) (hj : j < n) :
    0 ≤ cmpP (sqs (Num.splitP T W w n i - 1) (Num.splitP T W w n j + 1) T W (w i) (w j)) (sqs (Num.splitP T W w n i - 0) (Num.splitP T W w n j + 0) T W (w i) (w j)) := by
  have hW : (0 : Int) < (W : Nat) := by omega
  have hn := Num.split_nearest (T := T) (w := w) h0 hi hj
  have hs := Num.sq_move hW hn
  unfold Num.ovr at hs
  rw [sqs_eq h0, sqs_eq h0]
  refine cmp_red (Int.mul_pos (Int.mul_pos hW hW) (Int.mul_pos hW hW)) (Int.mul_le_mul_of_nonneg_right ?_ (Int.le_of_lt (Int.mul_pos hW hW)))
  rw [Int.sub_zero, Int.add_zero, Int.sub_mul _ 1, Int.add_mul _ 1, Int.one_mul]
  rw [show Num.splitP T W w n i * (W : Int) - (W : Int) - T * (w i : Int) = Num.splitP T W w n i * (W : Int) - T * (w i : Int) - (W : Int) by omega, show Num.splitP T W w n j * (W : Int) + (W : Int) - T * (w j : Int) = Num.splitP T W w n j * (W : Int) - T * (w j : Int) + (W : Int) by omega]
  exact hs

end Go.Proofs.YthhihdihkddakaaGreatDoor
