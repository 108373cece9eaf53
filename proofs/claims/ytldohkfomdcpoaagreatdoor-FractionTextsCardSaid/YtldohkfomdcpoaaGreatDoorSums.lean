/- The plain mathematics of addTimes: adding a multiple of a number in place. -/
import Derived.Test.YtldohkfomdcpoaaGreatDoorGroups
namespace Go.Proofs.YtldohkfomdcpoaaGreatDoor.Num

/-- k places of seg + f * ys are done: they are zs, and c is carried -/
structure Part (seg ys : List Int) (f : Int) (k : Nat) (zs : List Int) (c : Int) : Prop where
  len : zs.length = k
  norm : Norm zs
  lo : -999999999 ≤ c
  hi : c ≤ 999999999
  eq : gval zs + B ^ k * c = gval (seg.take k) + f * gval (ys.take k)

theorem Part.start (seg ys : List Int) (f : Int) : Part seg ys f 0 [] 0 := ⟨rfl, Norm.nil, by decide, by decide, by simp [gval]⟩

theorem gval_take_succ (ys : List Int) (k : Nat) : gval (ys.take (k + 1)) = gval (ys.take k) + B ^ k * ys.getD k 0 := by
  by_cases h : k < ys.length
  · rw [List.take_succ_eq_append_getElem h, gval_snoc, List.length_take, Nat.min_eq_left (by omega)]
    simp [List.getD, h]
  · rw [List.take_of_length_le (by omega), List.take_of_length_le (by omega)]
    simp [List.getD, List.getElem?_eq_none (Nat.le_of_not_lt h)]

theorem mul_bounds {f t : Int} (f0 : -999999999 ≤ f) (f1 : f ≤ 999999999) (t0 : 0 ≤ t) (t1 : t < B) : -999999998000000001 ≤ f * t ∧ f * t ≤ 999999998000000001 := by
  have h1 := Int.mul_le_mul_of_nonneg_right f1 t0
  have h2 := Int.mul_le_mul_of_nonneg_right f0 t0
  unfold B at t1
  omega

theorem Part.step {seg ys : List Int} {f : Int} {k : Nat} {zs : List Int} {c s t n : Int} (h : Part seg ys f k zs c) (hs : s = seg.getD k 0) (ht : t = ys.getD k 0)
    (s0 : 0 ≤ s) (s1 : s < B) (hb : -999999998000000001 ≤ f * t ∧ f * t ≤ 999999998000000001) (hn : n = s + c + f * t) : Part seg ys f (k + 1) (zs ++ [n % B]) (n / B) := by
  have h1 := h.lo
  have h2 := h.hi
  refine ⟨by simp [h.len], h.norm.append (Norm.one (by unfold B; omega) (by unfold B; omega)), by unfold B at *; omega, by unfold B at *; omega, ?_⟩
  rw [gval_take_succ, gval_take_succ, ← hs, ← ht, gval_snoc, h.len, Int.pow_succ]
  have e : gval zs + B ^ k * (n % B) + B ^ k * B * (n / B) = gval zs + B ^ k * n := by
    rw [Int.add_assoc, Int.mul_assoc, ← Int.mul_add]
    congr 2
    unfold B; omega
  rw [e, hn, Int.mul_add, Int.mul_add, Int.mul_add]
  have := h.eq
  have e2 : f * (B ^ k * t) = B ^ k * (f * t) := by rw [← Int.mul_assoc, Int.mul_comm f, Int.mul_assoc]
  rw [e2]
  omega

theorem Part.done {seg ys : List Int} {f : Int} {k : Nat} {zs : List Int} {c : Int} (h : Part seg ys f k zs c) (hk : seg.length = k + 1) (hy : ys.length ≤ k) :
    gval (zs ++ [seg.getD k 0 + c]) = gval seg + f * gval ys := by
  rw [gval_snoc, h.len, Int.mul_add]
  have := h.eq
  rw [List.take_of_length_le hy] at this
  have e : gval seg = gval (seg.take k) + B ^ k * seg.getD k 0 := by
    rw [← gval_take_succ, List.take_of_length_le (by omega)]
  omega

/-- zs in the place of what lies in Z from o on -/
def put (Z : List Int) (o : Nat) (zs : List Int) : List Int := Z.take o ++ (zs ++ Z.drop (o + zs.length))

theorem put_nil (Z : List Int) (o : Nat) : put Z o [] = Z := by simp [put]
theorem put_length {Z zs : List Int} {o : Nat} (h : o + zs.length ≤ Z.length) : (put Z o zs).length = Z.length := by simp [put]; omega
theorem put_snoc {Z zs : List Int} {o : Nat} (v : Int) (h : o + zs.length < Z.length) : (put Z o zs).set (o + zs.length) v = put Z o (zs ++ [v]) := by
  unfold put
  rw [List.set_append_right _ _ (by simp; omega), List.set_append_right _ _ (by simp; omega)]
  rw [show o + zs.length - (List.take o Z).length - zs.length = 0 by simp; omega]
  rw [List.drop_eq_getElem_cons h]
  simp [Nat.add_assoc]
theorem put_getD_behind {Z zs : List Int} {o j : Nat} (ho : o ≤ Z.length) (h : o + zs.length ≤ j) : (put Z o zs).getD j 0 = Z.getD j 0 := by
  unfold put
  simp only [List.getD_eq_getElem?_getD]
  rw [List.getElem?_append_right (by simp; omega), List.getElem?_append_right (by simp; omega), List.getElem?_drop]
  congr 2
  simp; omega
theorem put_getD_in {Z zs : List Int} {o j : Nat} (ho : o ≤ Z.length) (h : j < zs.length) : (put Z o zs).getD (o + j) 0 = zs.getD j 0 := by
  unfold put
  simp only [List.getD_eq_getElem?_getD]
  rw [List.getElem?_append_right (by simp; omega), List.getElem?_append_left (by simp; omega)]
  congr 2
  simp; omega
theorem put_getD_ahead {Z zs : List Int} {o j : Nat} (ho : o ≤ Z.length) (h : j < o) : (put Z o zs).getD j 0 = Z.getD j 0 := by
  unfold put
  simp only [List.getD_eq_getElem?_getD]
  rw [List.getElem?_append_left (by simp; omega), List.getElem?_take, if_pos h]

/-- what lies in Z from o on, m places -/
def part (Z : List Int) (o m : Nat) : List Int := (Z.drop o).take m
theorem part_length {Z : List Int} {o m : Nat} (h : o + m ≤ Z.length) : (part Z o m).length = m := by simp [part]; omega
theorem part_getD {Z : List Int} {o m j : Nat} (h : j < m) : (part Z o m).getD j 0 = Z.getD (o + j) 0 := by
  unfold part
  simp only [List.getD_eq_getElem?_getD]
  rw [List.getElem?_take, if_pos h, List.getElem?_drop]

theorem gval_put {Z zs : List Int} {o : Nat} (h : o + zs.length ≤ Z.length) : gval (put Z o zs) = gval Z + B ^ o * (gval zs - gval (part Z o zs.length)) := by
  have e : Z = Z.take o ++ (part Z o zs.length ++ Z.drop (o + zs.length)) := by
    unfold part
    rw [← List.drop_drop, List.take_append_drop, List.take_append_drop]
  conv => rhs; rw [e]
  unfold put
  rw [gval_append, gval_append, gval_append, gval_append]
  rw [show part (Z.take o ++ (part Z o zs.length ++ Z.drop (o + zs.length))) o zs.length = part Z o zs.length by rw [← e]]
  rw [part_length h, List.length_take, Nat.min_eq_left (by omega)]
  rw [Int.mul_add, Int.mul_add, Int.mul_sub]
  omega

/-- how addTimes fills the places: the last one takes what is carried -/
structure Filled (seg ys : List Int) (f : Int) (ws : List Int) : Prop where
  len : ws.length = seg.length
  norm : ∀ i, i + 1 < ws.length → 0 ≤ ws.getD i 0 ∧ ws.getD i 0 < B
  lo : seg.getD (seg.length - 1) 0 - 999999999 ≤ ws.getD (seg.length - 1) 0
  hi : ws.getD (seg.length - 1) 0 ≤ seg.getD (seg.length - 1) 0 + 999999999
  eq : gval ws = gval seg + f * gval ys

theorem Part.filled {seg ys : List Int} {f : Int} {k : Nat} {zs : List Int} {c : Int} (h : Part seg ys f k zs c) (hk : seg.length = k + 1) (hy : ys.length ≤ k) :
    Filled seg ys f (zs ++ [seg.getD k 0 + c]) := by
  have hl := h.len
  have hlast : (zs ++ [seg.getD k 0 + c]).getD k 0 = seg.getD k 0 + c := by
    simp only [List.getD_eq_getElem?_getD]
    rw [List.getElem?_append_right (by omega), hl]; simp
  refine ⟨by simp [hl, hk], fun i hi => ?_, ?_, ?_, h.done hk hy⟩
  · simp only [List.length_append, List.length_cons, List.length_nil] at hi
    have hi' : i < zs.length := by omega
    have := h.norm.at hi'
    simp only [List.getD_eq_getElem?_getD]
    rw [List.getElem?_append_left hi', List.getElem?_eq_getElem hi']
    exact this
  · rw [hk, Nat.add_sub_cancel, hlast]; have := h.lo; omega
  · rw [hk, Nat.add_sub_cancel, hlast]; have := h.hi; omega

/-- if the sum is not negative and starts with small last places, all places are groups -/
theorem Filled.norm_all {seg ys : List Int} {f : Int} {ws : List Int} (h : Filled seg ys f ws) (h0 : 0 ≤ gval seg + f * gval ys) (hl : seg.getD (seg.length - 1) 0 = 0) (hs : 0 < seg.length) : Norm ws := by
  have hlen := h.len
  have hne : ws ≠ [] := by rintro rfl; simp at hlen; omega
  obtain ⟨r, x, rfl⟩ : ∃ r c, ws = r ++ [c] := ⟨ws.dropLast, ws.getLast hne, (List.dropLast_concat_getLast hne).symm⟩
  simp only [List.length_append, List.length_cons, List.length_nil] at hlen
  have hr : Norm r := by
    intro z hz
    obtain ⟨i, hi, rfl⟩ := List.getElem_of_mem hz
    have := h.norm i (by simp; omega)
    simp only [List.getD_eq_getElem?_getD] at this
    rw [List.getElem?_append_left hi, List.getElem?_eq_getElem hi] at this
    exact this
  have hx : (r ++ [x]).getD (seg.length - 1) 0 = x := by
    simp only [List.getD_eq_getElem?_getD]
    rw [List.getElem?_append_right (by omega), show seg.length - 1 - r.length = 0 by omega]; simp
  have h1 := h.lo
  have h2 := h.hi
  rw [hx, hl] at h1 h2
  have he := h.eq
  rw [gval_snoc] at he
  have hg := gval_lt hr
  refine hr.append (Norm.one ?_ (by unfold B; omega))
  by_cases hneg : x < 0
  · have := Int.mul_le_mul_of_nonneg_left (show x ≤ -1 by omega) (Int.le_of_lt (Bpow_pos r.length))
    omega
  · omega

theorem Norm.put {Z zs : List Int} (h : Norm Z) (k : Norm zs) (o : Nat) : Norm (put Z o zs) := (h.take _).append (k.append (h.drop _))
theorem Norm.part {Z : List Int} (h : Norm Z) (o m : Nat) : Norm (part Z o m) := (h.drop _).take _
theorem Norm.getD {Z : List Int} (h : Norm Z) (i : Nat) : 0 ≤ Z.getD i 0 ∧ Z.getD i 0 < B := by
  by_cases hi : i < Z.length
  · have := h.at hi; simp [List.getD, hi]; exact this
  · simp [List.getD, List.getElem?_eq_none (Nat.le_of_not_lt hi)]; decide

/-- k rounds of the multiplication are done -/
structure MulInv (xs ys : List Int) (l k : Nat) (Z : List Int) : Prop where
  len : Z.length = l
  norm : Norm Z
  eq : gval Z = gval (xs.take k) * gval ys
  zero : ∀ j, k + ys.length ≤ j → Z.getD j 0 = 0

theorem MulInv.start (xs ys : List Int) (l : Nat) : MulInv xs ys l 0 (List.replicate l 0) :=
  ⟨by simp, Norm.zeros _, by simp [gval_zeros, gval], fun j _ => by simp [List.getD, List.getElem?_replicate]; split <;> rfl⟩

theorem MulInv.step {xs ys : List Int} {l k : Nat} {Z ws : List Int} (h : MulInv xs ys l k Z) (hy : Norm ys) (hx : Norm xs) (hl : k + ys.length + 1 ≤ l)
    (hf : Filled (part Z k (ys.length + 1)) ys (xs.getD k 0) ws) : MulInv xs ys l (k + 1) (put Z k ws) := by
  have hlen := h.len
  have hpl : (part Z k (ys.length + 1)).length = ys.length + 1 := part_length (by omega)
  have hwl : ws.length = ys.length + 1 := by rw [hf.len, hpl]
  have hx0 := (hx.getD k).1
  have hg : 0 ≤ xs.getD k 0 * gval ys := Int.mul_nonneg hx0 (gval_nonneg hy)
  have hp0 := gval_nonneg (h.norm.part k (ys.length + 1))
  have hws : Norm ws := hf.norm_all (by omega) (by rw [hpl, Nat.add_sub_cancel, part_getD (by omega)]; exact h.zero _ (by omega)) (by omega)
  refine ⟨by rw [put_length (by omega)]; exact hlen, h.norm.put hws k, ?_, fun j hj => ?_⟩
  · rw [gval_put (by omega), hwl, hf.eq, h.eq, gval_take_succ, Int.add_mul, Int.mul_assoc]
    congr 2
    omega
  · rw [put_getD_behind (by omega) (by omega)]
    exact h.zero _ (by omega)

end Go.Proofs.YtldohkfomdcpoaaGreatDoor.Num
