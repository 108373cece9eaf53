/- The plain mathematics of long division: the whole. -/
import Derived.Test.YtldohkfomdcpoaaGreatDoorQuo
namespace Go.Proofs.YtldohkfomdcpoaaGreatDoor.Num

/-- the groups of a number -/
def groups (z : Int) : List Int := grps (digs z.toNat)
theorem Can.groups (z : Int) : Can (groups z) := Can.grps (Plain.digs _)
theorem gval_groups {z : Int} (h : 0 ≤ z) : gval (groups z) = z := by
  unfold Num.groups; rw [gval_grps, num_digs]; omega

/-- the divisor times the factor has as many groups as the divisor -/
theorem scaled_length {ys D : List Int} {t : Nat} {F : Int} (hy : Can ys) (hyl : ys.length = t + 1) (hF : F = 1000000000 / (ys.getD t 0 + 1)) (hD : Can D) (hg : gval D = gval ys * F) :
    D.length = t + 1 ∧ 1 ≤ F ∧ F ≤ 500000000 := by
  have hd := hy.last_pos hyl
  have hb := (hy.1.getD t).2
  unfold B at hb
  have h1 : F * (ys.getD t 0 + 1) ≤ 1000000000 := by rw [hF]; exact Int.ediv_mul_le _ (by omega)
  have hF1 : 1 ≤ F := by rw [hF]; exact Int.le_ediv_of_mul_le (by omega) (by omega)
  have hF2 : F ≤ 500000000 := by
    have := Int.mul_le_mul_of_nonneg_left (show 2 ≤ ys.getD t 0 + 1 by omega) (show 0 ≤ F by omega); omega
  refine ⟨?_, hF1, hF2⟩
  have hY0 : ys ≠ [] := by rintro rfl; simp at hyl
  have eY : gval ys = gval (ys.take t) + B ^ t * ys.getD t 0 := by
    have := gval_take_succ ys t
    rw [List.take_of_length_le (by omega)] at this; exact this
  have hlt := gval_lt (hy.1.take t)
  rw [List.length_take, Nat.min_eq_left (by omega)] at hlt
  have hp := Bpow_pos t
  have hYlt : gval ys < B ^ t * (ys.getD t 0 + 1) := by rw [eY, Int.mul_add _ _ 1, Int.mul_one]; omega
  have hup : gval D < B ^ (t + 1) := by
    rw [hg, Int.pow_succ]
    have h2 := Int.mul_lt_mul_of_pos_right hYlt (show 0 < F by omega)
    have h3 : B ^ t * (ys.getD t 0 + 1) * F = B ^ t * (F * (ys.getD t 0 + 1)) := by rw [Int.mul_assoc, Int.mul_comm F]
    have h4 := Int.mul_le_mul_of_nonneg_left h1 (Int.le_of_lt hp)
    unfold B at *; omega
  have hYge := gval_ge hy hY0
  rw [hyl, Nat.add_sub_cancel] at hYge
  have hYpos := gval_pos hy hY0
  have hdn : B ^ t ≤ gval D := by
    rw [hg]
    have := Int.mul_le_mul_of_nonneg_left hF1 (Int.le_of_lt hYpos)
    omega
  have hD0 : D ≠ [] := by rintro rfl; simp [gval] at hdn; omega
  by_cases hl1 : D.length ≤ t
  · have := gval_lt hD.1
    have := Bpow_mono hl1; omega
  · by_cases hl2 : t + 2 ≤ D.length
    · have h5 := gval_ge hD hD0
      have := Bpow_mono (show t + 1 ≤ D.length - 1 by omega); omega
    · omega

/-- the places of the quotient from k on are done -/
structure DivInv (XF : Int) (D : List Int) (n t k : Nat) (Z Q : List Int) : Prop where
  zlen : Z.length = n + 1
  qlen : Q.length = n - t
  znorm : Norm Z
  qnorm : Norm Q
  eq : XF = gval Z + B ^ k * gval (Q.drop k) * gval D
  lt : gval (Z.drop k) < gval D

theorem gval_drop (Z : List Int) (k : Nat) (h : k ≤ Z.length) : gval Z = gval (Z.take k) + B ^ k * gval (Z.drop k) := by
  conv => lhs; rw [← List.take_append_drop k Z, gval_append, List.length_take, Nat.min_eq_left h]

theorem DivInv.start {xs ys D Z : List Int} {n t : Nat} {F : Int} (hx : Norm xs) (hxl : xs.length = n) (hy : Can ys) (hyl : ys.length = t + 1) (hnt : t + 1 ≤ n) (hF : 1 ≤ F) (hD : gval D = gval ys * F)
    (hZ : Norm Z) (hZl : Z.length = n + 1) (hg : gval Z = gval xs * F) : DivInv (gval xs * F) D n t (n - t) Z (List.replicate (n - t) 0) := by
  refine ⟨hZl, by simp, hZ, Norm.zeros _, ?_, ?_⟩
  · rw [List.drop_of_length_le (by simp), hg]; simp [gval]
  · have hX := gval_lt hx
    rw [hxl] at hX
    have hY0 : ys ≠ [] := by rintro rfl; simp at hyl
    have hYge := gval_ge hy hY0
    rw [hyl, Nat.add_sub_cancel] at hYge
    by_cases hc : gval (Z.drop (n - t)) < gval D
    · exact hc
    · exfalso
      have h1 := gval_drop Z (n - t) (by omega)
      have h2 := gval_nonneg (hZ.take (n - t))
      have hp := Bpow_pos (n - t)
      have h3 := Int.mul_le_mul_of_nonneg_left (show gval D ≤ gval (Z.drop (n - t)) by omega) (Int.le_of_lt hp)
      have h4 : B ^ n * F ≤ B ^ (n - t) * gval D := by
        rw [hD, ← Int.mul_assoc]
        refine Int.mul_le_mul_of_nonneg_right ?_ (by omega)
        have := Int.mul_le_mul_of_nonneg_left hYge (Int.le_of_lt hp)
        rw [← Int.pow_add, show n - t + t = n by omega] at this
        exact this
      have h5 := Int.mul_lt_mul_of_pos_right hX (show 0 < F by omega)
      omega

theorem gval_cons_part {Z : List Int} {i m : Nat} (h : i < Z.length) : gval (part Z i (m + 1)) = Z.getD i 0 + B * gval (part Z (i + 1) m) := by
  unfold part
  rw [List.drop_eq_getElem_cons h, List.take_succ_cons]
  simp [gval, List.getD, h]

theorem DivInv.seg_lt {XF : Int} {D : List Int} {n t i : Nat} {Z Q : List Int} (h : DivInv XF D n t (i + 1) Z Q) (hi : i < n - t) : gval (part Z i (t + 2)) < B * gval D := by
  have hl := h.zlen
  have h1 := gval_drop (Z.drop (i + 1)) (t + 1) (by simp; omega)
  have h2 := gval_nonneg ((h.znorm.drop (i + 1)).drop (t + 1))
  have h3 := Int.mul_nonneg (Int.le_of_lt (Bpow_pos (t + 1))) h2
  have h4 := h.lt
  have hz := h.znorm.getD i
  rw [gval_cons_part (by omega)]
  unfold part
  unfold B at *
  omega

theorem DivInv.step {XF : Int} {D : List Int} {n t i : Nat} {Z Q ws : List Int} {q : Int} (h : DivInv XF D n t (i + 1) Z Q) (hi : i < n - t) (hD : Can D) (hDl : D.length = t + 1)
    (hwl : ws.length = t + 2) (hwn : Norm ws) (hq : q = gval (part Z i (t + 2)) / gval D) (hw : gval ws = gval (part Z i (t + 2)) - q * gval D) (hlt : gval ws < gval D) :
    DivInv XF D n t i (put Z i ws) (Q.set i q) := by
  have hl := h.zlen
  have hql := h.qlen
  have hDpos : 0 < gval D := gval_pos hD (by rintro rfl; simp at hDl)
  have hsn := gval_nonneg (h.znorm.part i (t + 2))
  have q0 : 0 ≤ q := by rw [hq]; exact Int.ediv_nonneg hsn (by omega)
  have q1 : q < B := by rw [hq]; exact Int.ediv_lt_of_lt_mul hDpos (h.seg_lt hi)
  refine ⟨by rw [put_length (by omega)]; exact hl, by simp [hql], h.znorm.put hwn i, ?_, ?_, ?_⟩
  · intro z hz
    rcases List.mem_or_eq_of_mem_set hz with hz | rfl
    · exact h.qnorm z hz
    · exact ⟨q0, q1⟩
  · rw [gval_put (by omega), hwl, hw]
    rw [List.drop_eq_getElem_cons (show i < (Q.set i q).length by rw [List.length_set]; omega)]
    rw [show (Q.set i q).drop (i + 1) = Q.drop (i + 1) by rw [List.drop_set_of_lt (by omega)]]
    simp only [gval, List.getElem_set_self]
    have he := h.eq
    rw [Int.pow_succ] at he
    rw [he, Int.mul_add, Int.add_mul]
    have e1 : B ^ i * (gval (part Z i (t + 2)) - q * gval D - gval (part Z i (t + 2))) = -(B ^ i * q * gval D) := by
      rw [show gval (part Z i (t + 2)) - q * gval D - gval (part Z i (t + 2)) = -(q * gval D) by omega, Int.mul_neg, Int.mul_assoc]
    have e2 : B ^ i * (B * gval (List.drop (i + 1) Q)) = B ^ i * B * gval (List.drop (i + 1) Q) := by rw [Int.mul_assoc]
    rw [e1, e2]
    omega
  · have hZd : (put Z i ws).drop i = ws ++ Z.drop (i + (t + 2)) := by
      have e : (Z.take i).length = i := by simp; omega
      unfold put
      conv => lhs; arg 1; rw [← e]
      rw [List.drop_left, hwl]
    rw [hZd, gval_append, hwl]
    have h1 := gval_drop (Z.drop (i + 1)) (t + 1) (by simp; omega)
    have h2 := gval_nonneg ((h.znorm.drop (i + 1)).take (t + 1))
    have h4 := h.lt
    have hDlt := gval_lt hD.1
    rw [hDl] at hDlt
    rw [List.drop_drop, show i + 1 + (t + 1) = i + (t + 2) by omega] at h1
    have h5 : gval (Z.drop (i + (t + 2))) = 0 := by
      have h6 := gval_nonneg (h.znorm.drop (i + (t + 2)))
      by_cases hc : 1 ≤ gval (Z.drop (i + (t + 2)))
      · have := Int.mul_le_mul_of_nonneg_left hc (Int.le_of_lt (Bpow_pos (t + 1))); omega
      · omega
    rw [h5]; omega

/-- the end: quotient and remainder -/
theorem DivInv.done {X Y F : Int} {D : List Int} {n t : Nat} {Z Q : List Int} (h : DivInv (X * F) D n t 0 Z Q) (hD : gval D = Y * F) (hF : 1 ≤ F) :
    ∃ rs, Can rs ∧ gval Z = gval rs * F ∧ X = gval (trimmed Q) * Y + gval rs ∧ gval rs < Y := by
  have he := h.eq
  have hlt := h.lt
  simp only [List.drop_zero, Int.pow_zero, Int.one_mul] at he hlt
  rw [hD] at he hlt
  have hz := gval_nonneg h.znorm
  have e1 : gval Z = (X - gval Q * Y) * F := by rw [Int.sub_mul, Int.mul_assoc]; omega
  have hr0 : 0 ≤ X - gval Q * Y := by
    by_cases hc : X - gval Q * Y ≤ -1
    · have := Int.mul_le_mul_of_nonneg_right hc (show 0 ≤ F by omega); omega
    · omega
  have hr1 : X - gval Q * Y < Y := by
    rw [e1] at hlt
    exact Int.lt_of_mul_lt_mul_right hlt (by omega)
  refine ⟨groups (X - gval Q * Y), Can.groups _, ?_, ?_, ?_⟩
  · rw [gval_groups hr0]; exact e1
  · rw [gval_groups hr0, gval_trimmed]; omega
  · rw [gval_groups hr0]; exact hr1

end Go.Proofs.YtldohkfomdcpoaaGreatDoor.Num
