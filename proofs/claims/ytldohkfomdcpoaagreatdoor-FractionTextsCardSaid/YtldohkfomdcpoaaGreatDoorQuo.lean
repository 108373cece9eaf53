/- The plain mathematics of long division: one group of the quotient by a guess that is not too small; the whole quotient; a number divided by one group. -/
import Derived.Test.YtldohkfomdcpoaaGreatDoorSums
namespace Go.Proofs.YtldohkfomdcpoaaGreatDoor.Num

/-- all places but the last one are groups -/
def Init (ws : List Int) : Prop := ∀ i, i + 1 < ws.length → 0 ≤ ws.getD i 0 ∧ ws.getD i 0 < B

theorem Init.open {ws : List Int} {t : Nat} (h : Init ws) (hl : ws.length = t + 1) : ∃ r, r.length = t ∧ Norm r ∧ ws = r ++ [ws.getD t 0] ∧ gval ws = gval r + B ^ t * ws.getD t 0 := by
  have e : ws = ws.take t ++ [ws.getD t 0] := by
    conv => lhs; rw [← List.take_of_length_le (show ws.length ≤ t + 1 by omega)]
    rw [List.take_succ_eq_append_getElem (by omega)]; simp [List.getD, show t < ws.length by omega]
  have hrl : (ws.take t).length = t := by simp; omega
  refine ⟨ws.take t, hrl, ?_, e, ?_⟩
  · intro z hz
    obtain ⟨i, hi, rfl⟩ := List.getElem_of_mem hz
    have := h i (by omega)
    simp only [List.getElem_take]
    simpa [List.getD, show i < ws.length by omega] using this
  · conv => lhs; rw [e, gval_snoc, hrl]

theorem Init.neg_iff {ws : List Int} {t : Nat} (h : Init ws) (hl : ws.length = t + 1) : gval ws < 0 ↔ ws.getD t 0 < 0 := by
  obtain ⟨r, hr, hn, _, hg⟩ := h.open hl
  have h1 := gval_bounds hn
  rw [hr] at h1
  have hp := Bpow_pos t
  rw [hg]
  constructor
  · intro hlt
    by_cases hx : ws.getD t 0 < 0
    · exact hx
    · have := Int.mul_nonneg (Int.le_of_lt hp) (show 0 ≤ ws.getD t 0 by omega); omega
  · intro hx
    have := Int.mul_le_mul_of_nonneg_left (show ws.getD t 0 ≤ -1 by omega) (Int.le_of_lt hp)
    omega

theorem Init.last_bounds {ws : List Int} {t : Nat} (h : Init ws) (hl : ws.length = t + 1) (h0 : -(B * B ^ t) ≤ gval ws) (h1 : gval ws ≤ B * B ^ t) : -1000000001 ≤ ws.getD t 0 ∧ ws.getD t 0 ≤ 1000000000 := by
  obtain ⟨r, hr, hn, _, hg⟩ := h.open hl
  have hb := gval_bounds hn
  rw [hr] at hb
  have hp := Bpow_pos t
  constructor
  · by_cases hx : ws.getD t 0 ≤ -1000000002
    · have := Int.mul_le_mul_of_nonneg_left hx (Int.le_of_lt hp)
      unfold B at *; omega
    · omega
  · by_cases hx : 1000000001 ≤ ws.getD t 0
    · have := Int.mul_le_mul_of_nonneg_left hx (Int.le_of_lt hp)
      unfold B at *; omega
    · omega

theorem Init.norm {ws : List Int} {t : Nat} (h : Init ws) (hl : ws.length = t + 1) (h0 : 0 ≤ gval ws) (h1 : gval ws < B ^ t) : Norm ws := by
  obtain ⟨r, hr, hn, he, hg⟩ := h.open hl
  have hb := gval_bounds hn
  rw [hr] at hb
  have hp := Bpow_pos t
  rw [he]
  have hx := (h.neg_iff hl)
  refine hn.append (Norm.one (by by_cases hh : ws.getD t 0 < 0; exact absurd (hx.2 hh) (by omega); omega) ?_)
  by_cases hx : 1 ≤ ws.getD t 0
  · have := Int.mul_le_mul_of_nonneg_left hx (Int.le_of_lt hp); omega
  · unfold B; omega

/-- the guess of a group of the quotient is not too small -/
theorem guess_ge {seg D : List Int} {t : Nat} (hs : Norm seg) (hsl : seg.length = t + 2) (hd : Norm D) (hdl : D.length = t + 1) (hpos : 0 < D.getD t 0)
    {q : Int} (hq : q * gval D ≤ gval seg) (hq0 : 0 ≤ q) : q ≤ (seg.getD (t + 1) 0 * B + seg.getD t 0) / D.getD t 0 := by
  rw [Int.le_ediv_iff_mul_le hpos]
  have eD : gval D = gval (D.take t) + B ^ t * D.getD t 0 := by
    have := gval_take_succ D t
    rw [List.take_of_length_le (by omega)] at this; exact this
  have eS : gval seg = gval (seg.take t) + B ^ t * (seg.getD (t + 1) 0 * B + seg.getD t 0) := by
    have h1 := gval_take_succ seg (t + 1)
    have h2 := gval_take_succ seg t
    rw [List.take_of_length_le (by omega)] at h1
    rw [h1, h2, Int.pow_succ, Int.mul_add, Int.mul_assoc, Int.mul_comm B]
    omega
  have hlt := gval_lt (hs.take t)
  rw [List.length_take, Nat.min_eq_left (by omega)] at hlt
  have hD0 := gval_nonneg (hd.take t)
  have hp := Bpow_pos t
  have h3 : q * (B ^ t * D.getD t 0) ≤ q * gval D := by
    rw [eD]; exact Int.mul_le_mul_of_nonneg_left (by omega) hq0
  have h4 : B ^ t * (q * D.getD t 0) < B ^ t * (seg.getD (t + 1) 0 * B + seg.getD t 0 + 1) := by
    rw [Int.mul_add _ _ 1, Int.mul_one]
    have : B ^ t * (q * D.getD t 0) = q * (B ^ t * D.getD t 0) := by rw [← Int.mul_assoc, Int.mul_comm (B ^ t), Int.mul_assoc]
    omega
  have := Int.lt_of_mul_lt_mul_left h4 (Int.le_of_lt hp)
  omega

/-- while the quotient is guessed: g times D is taken off -/
structure RedInv (seg D : List Int) (t : Nat) (g : Int) (ws : List Int) : Prop where
  len : ws.length = t + 2
  init : Init ws
  eq : gval ws = gval seg - g * gval D
  ge : gval seg / gval D ≤ g
  le : g ≤ 999999999

theorem RedInv.last {seg D : List Int} {t : Nat} {g : Int} {ws : List Int} (h : RedInv seg D t g ws) (hs : Norm seg) (hsl : seg.length = t + 2) (hd : Norm D) (hdl : D.length = t + 1) (hD : 0 < gval D) :
    -1000000001 ≤ ws.getD (t + 1) 0 ∧ ws.getD (t + 1) 0 ≤ 1000000000 := by
  have hle := h.le
  have hge := h.ge
  have h0 : 0 ≤ g := Int.le_trans (Int.ediv_nonneg (gval_nonneg hs) (Int.le_of_lt hD)) hge
  have e1 := gval_bounds hs
  have e2 := gval_bounds hd
  rw [hsl] at e1
  rw [hdl] at e2
  have e3 := Int.mul_le_mul_of_nonneg_right hle (Int.le_of_lt hD)
  have e4 := Int.mul_nonneg h0 (Int.le_of_lt hD)
  have hp := Bpow_pos (t + 1)
  have e5 : B ^ (t + 2) = B * B ^ (t + 1) := by rw [Int.pow_succ, Int.mul_comm]
  refine h.init.last_bounds (t := t + 1) h.len ?_ ?_
  · rw [h.eq]
    have := Int.mul_le_mul_of_nonneg_left (Int.le_of_lt e2.2) (show (0 : Int) ≤ 999999999 by decide)
    unfold B at *; omega
  · rw [h.eq]; omega

theorem RedInv.again {seg D : List Int} {t : Nat} {g : Int} {ws vs : List Int} (h : RedInv seg D t g ws) (hD : 0 < gval D) (hneg : ws.getD (t + 1) 0 < 0) (hf : Filled ws D 1 vs) : RedInv seg D t (g - 1) vs ∧ 0 < g ∨ gval seg < 0 := by
  by_cases hs : gval seg < 0
  · exact .inr hs
  · left
    have hlt := (h.init.neg_iff (t := t + 1) h.len).2 hneg
    have he := h.eq
    have hg : gval seg / gval D < g := Int.ediv_lt_of_lt_mul hD (by omega)
    have h0 := Int.ediv_nonneg (show 0 ≤ gval seg by omega) (Int.le_of_lt hD)
    refine ⟨⟨by rw [hf.len, h.len], fun i hi => hf.norm i hi, ?_, by omega, by have := h.le; omega⟩, by omega⟩
    rw [hf.eq, he, Int.sub_mul]; omega

theorem RedInv.done {seg D : List Int} {t : Nat} {g : Int} {ws : List Int} (h : RedInv seg D t g ws) (hd : Norm D) (hdl : D.length = t + 1) (hD : 0 < gval D) (hpos : ¬ ws.getD (t + 1) 0 < 0) :
    Norm ws ∧ gval ws = gval seg - g * gval D ∧ 0 ≤ gval ws ∧ gval ws < gval D ∧ gval seg / gval D = g := by
  have hnn : ¬ gval ws < 0 := fun hh => hpos ((h.init.neg_iff (t := t + 1) h.len).1 hh)
  have he := h.eq
  have hle : g ≤ gval seg / gval D := Int.le_ediv_of_mul_le hD (by omega)
  have hge := h.ge
  have hq : gval seg / gval D = g := by omega
  have hm := Int.emod_lt_of_pos (gval seg) hD
  have hm2 := Int.emod_add_mul_ediv (gval seg) (gval D)
  rw [hq, Int.mul_comm] at hm2
  have hlt : gval ws < gval D := by omega
  have hb := gval_lt hd
  rw [hdl] at hb
  exact ⟨h.init.norm (t := t + 1) h.len (by omega) (by omega), he, by omega, hlt, hq⟩

/-! ### a number divided by one group -/

/-- the places from k on are done: what is left is r -/
structure ShrInv (xs : List Int) (d : Int) (k : Nat) (Q : List Int) (r : Int) : Prop where
  len : Q.length = xs.length
  norm : Norm Q
  lo : 0 ≤ r
  hi : r < d
  eq : gval (xs.drop k) = gval (Q.drop k) * d + r

theorem ShrInv.start (xs : List Int) {d : Int} (hd : 0 < d) : ShrInv xs d xs.length (List.replicate xs.length 0) 0 :=
  ⟨by simp, Norm.zeros _, by omega, hd, by rw [List.drop_of_length_le (Nat.le_refl _), List.drop_of_length_le (by simp)]; simp [gval]⟩

theorem ShrInv.step {xs : List Int} {d : Int} {k : Nat} {Q : List Int} {r x n : Int} (h : ShrInv xs d (k + 1) Q r) (hk : k < xs.length) (hx : Norm xs) (hd : 0 < d) (hxx : x = xs.getD k 0) (hn : n = r * B + x) :
    ShrInv xs d k (Q.set k (n / d)) (n % d) := by
  have hxb := hx.getD k
  rw [← hxx] at hxb
  have hlo := h.lo
  have hhi := h.hi
  have n0 : 0 ≤ n := by rw [hn]; unfold B at *; omega
  have n1 : n < B * d := by rw [hn]; unfold B at *; omega
  have q0 := Int.ediv_nonneg n0 (Int.le_of_lt hd)
  have q1 : n / d < B := Int.ediv_lt_of_lt_mul hd n1
  have hlen := h.len
  refine ⟨by simp [hlen], ?_, Int.emod_nonneg _ (by omega), Int.emod_lt_of_pos _ hd, ?_⟩
  · intro z hz
    rcases List.mem_or_eq_of_mem_set hz with hz | rfl
    · exact h.norm z hz
    · exact ⟨q0, q1⟩
  · rw [List.drop_eq_getElem_cons hk, List.drop_eq_getElem_cons (show k < (Q.set k (n / d)).length by rw [List.length_set]; omega)]
    have e1 : xs[k] = x := by rw [hxx]; simp [List.getD, hk]
    have e2 : (Q.set k (n / d)).drop (k + 1) = Q.drop (k + 1) := by rw [List.drop_set_of_lt (by omega)]
    rw [e1, e2]
    simp only [gval, List.getElem_set_self]
    rw [h.eq]
    have hm := Int.emod_add_mul_ediv n d
    rw [Int.add_mul, Int.mul_add, Int.mul_comm (n / d) d, Int.mul_comm B r, Int.mul_assoc]
    omega

theorem ShrInv.done {xs zs : List Int} {d : Int} {Q : List Int} {r : Int} (h : ShrInv xs d 0 Q r) (hd : 0 < d) (hz : Can zs) (he : gval xs = gval zs * d) : trimmed Q = zs := by
  refine gval_inj (Can.trimmed h.norm) hz ?_
  rw [gval_trimmed]
  have h1 := h.eq
  simp only [List.drop_zero] at h1
  rw [he] at h1
  have h2 := h.lo
  have h3 := h.hi
  have : (gval zs - gval Q) * d = r := by rw [Int.sub_mul]; omega
  by_cases hc : gval zs - gval Q = 0
  · omega
  · by_cases hc1 : 0 < gval zs - gval Q
    · have := Int.mul_le_mul_of_nonneg_right (show 1 ≤ gval zs - gval Q by omega) (Int.le_of_lt hd); omega
    · have := Int.mul_le_mul_of_nonneg_right (show gval zs - gval Q ≤ -1 by omega) (Int.le_of_lt hd); omega

theorem Can.last_pos {D : List Int} {t : Nat} (h : Can D) (hl : D.length = t + 1) : 0 < D.getD t 0 := by
  have h0 : D ≠ [] := by rintro rfl; simp at hl
  obtain ⟨r, c, rfl⟩ : ∃ r c, D = r ++ [c] := ⟨D.dropLast, D.getLast h0, (List.dropLast_concat_getLast h0).symm⟩
  have h1 := h.2
  have hc := h.1 c (by simp)
  rw [List.getLast?_append] at h1
  simp at h1
  have hr : r.length = t := by simpa using hl
  simp only [List.getD_eq_getElem?_getD]
  rw [List.getElem?_append_right (by omega), hr]
  simp; omega

theorem part_put {Z ws : List Int} {o m : Nat} (ho : o ≤ Z.length) (h : ws.length = m) : part (put Z o ws) o m = ws := by
  have e : (Z.take o).length = o := by simp; omega
  unfold part put
  conv => lhs; arg 2; arg 1; rw [← e]
  rw [List.drop_left, List.take_append_of_le_length (by omega), List.take_of_length_le (by omega)]
theorem put_put {Z ws vs : List Int} {o : Nat} (ho : o ≤ Z.length) (h : ws.length = vs.length) : put (put Z o ws) o vs = put Z o vs := by
  have e : (Z.take o).length = o := by simp; omega
  have e1 : (put Z o ws).take o = Z.take o := by
    unfold put
    rw [List.take_append_of_le_length (by omega), List.take_of_length_le (by omega)]
  have e2 : (put Z o ws).drop (o + vs.length) = Z.drop (o + vs.length) := by
    unfold put
    rw [← List.drop_drop]
    conv => lhs; arg 2; arg 1; rw [← e]
    rw [List.drop_left, ← h, List.drop_left]
  show (put Z o ws).take o ++ (vs ++ (put Z o ws).drop (o + vs.length)) = _
  rw [e1, e2]; rfl

end Go.Proofs.YtldohkfomdcpoaaGreatDoor.Num
