/- The plain mathematics of decimal texts: values of byte lists, canonical texts, groups of nine digits. It imports nothing of the program. -/
import Derived.Lib.ItoaNum
namespace Go.Proofs.YtldohkfomdcpoaaGreatDoor.Num
open Go.Lib (decDigits)

abbrev Bs := List UInt8

/-- the base of the groups -/
abbrev B : Int := 1000000000

def isDig (c : UInt8) : Bool := decide (48 ≤ c.toNat) && decide (c.toNat ≤ 57)
def dv (c : UInt8) : Nat := c.toNat - 48
def num (l : Bs) : Nat := l.foldl (fun n c => 10 * n + dv c) 0

theorem foldl_num (l : Bs) (a : Nat) : l.foldl (fun n c => 10 * n + dv c) a = a * 10 ^ l.length + num l := by
  induction l generalizing a with
  | nil => simp [num]
  | cons c l ih =>
    simp only [num, List.foldl_cons, List.length_cons, Nat.pow_succ]
    rw [ih, ih (10 * 0 + dv c), Nat.add_mul, Nat.add_mul]
    have e : 10 * a * 10 ^ l.length = a * (10 ^ l.length * 10) := by rw [Nat.mul_comm 10 a, Nat.mul_assoc, Nat.mul_comm 10]
    omega

theorem num_nil : num [] = 0 := rfl
theorem num_cons (c : UInt8) (l : Bs) : num (c :: l) = dv c * 10 ^ l.length + num l := by
  show List.foldl _ _ l = _
  rw [foldl_num]; simp
theorem num_append (l m : Bs) : num (l ++ m) = num l * 10 ^ m.length + num m := by
  unfold num; rw [List.foldl_append, foldl_num]; rfl
theorem num_snoc (l : Bs) (c : UInt8) : num (l ++ [c]) = 10 * num l + dv c := by
  rw [num_append, num_cons]; simp [num]; omega

theorem isDig_iff (c : UInt8) : isDig c = true ↔ 48 ≤ c.toNat ∧ c.toNat ≤ 57 := by simp [isDig]

theorem num_lt (l : Bs) (h : l.all isDig = true) : num l < 10 ^ l.length := by
  induction l with
  | nil => simp [num]
  | cons c l ih =>
    simp only [List.all_cons, Bool.and_eq_true] at h
    have hc := (isDig_iff c).1 h.1
    have := ih h.2
    rw [num_cons, List.length_cons, Nat.pow_succ]
    have h9 : dv c ≤ 9 := by unfold dv; omega
    have := Nat.mul_le_mul_right (10 ^ l.length) h9
    omega

theorem num_ge (c : UInt8) (l : Bs) (h : isDig c = true) (h0 : c ≠ 48) : 10 ^ l.length ≤ num (c :: l) := by
  have hc := (isDig_iff c).1 h
  have : c.toNat ≠ 48 := fun e => h0 (UInt8.toNat_inj.1 (by simpa using e))
  rw [num_cons]
  have h1 : 1 ≤ dv c := by unfold dv; omega
  have := Nat.mul_le_mul_right (10 ^ l.length) h1
  omega

/-- digits without a leading zero -/
def Plain (l : Bs) : Prop := l.all isDig = true ∧ l.head? ≠ some 48

theorem Plain.nil : Plain [] := ⟨rfl, by simp⟩

theorem num_pos {l : Bs} (h : Plain l) (hl : l ≠ []) : 0 < num l := by
  cases l with
  | nil => exact absurd rfl hl
  | cons c l =>
    have := num_ge c l (by have := h.1; simp only [List.all_cons, Bool.and_eq_true] at this; exact this.1) (by have := h.2; simpa using this)
    have := Nat.pow_pos (n := l.length) (show 0 < 10 by decide)
    omega

/-- the digits of a number, none for 0 -/
def digs (n : Nat) : Bs := if n = 0 then [] else decDigits n

theorem ofNat_dig (d : Nat) (h : d < 10) : (UInt8.ofNat (48 + d)).toNat = 48 + d := by
  rw [UInt8.toNat_ofNat']; omega
theorem isDig_ofNat (d : Nat) (h : d < 10) : isDig (UInt8.ofNat (48 + d)) = true := by
  rw [isDig_iff, ofNat_dig d h]; omega
theorem dv_ofNat (d : Nat) (h : d < 10) : dv (UInt8.ofNat (48 + d)) = d := by
  unfold dv; rw [ofNat_dig d h]; omega

theorem num_decDigits (n : Nat) : num (decDigits n) = n := by
  induction n using Nat.strongRecOn with
  | _ n ih =>
    by_cases h : n < 10
    · rw [decDigits, dif_pos h, num_cons, dv_ofNat n h]; simp [num]
    · rw [decDigits, dif_neg h, num_snoc, ih (n / 10) (by omega), dv_ofNat _ (by omega)]; omega

theorem all_decDigits (n : Nat) : (decDigits n).all isDig = true := by
  induction n using Nat.strongRecOn with
  | _ n ih =>
    by_cases h : n < 10
    · rw [decDigits, dif_pos h, List.all_cons, isDig_ofNat n h]; rfl
    · rw [decDigits, dif_neg h, List.all_append, ih (n / 10) (by omega), List.all_cons, isDig_ofNat (n % 10) (by omega)]; rfl

theorem decDigits_ne (n : Nat) : decDigits n ≠ [] := by
  by_cases h : n < 10
  · rw [decDigits, dif_pos h]; simp
  · rw [decDigits, dif_neg h]; simp

theorem head_decDigits (n : Nat) (h0 : n ≠ 0) : (decDigits n).head? ≠ some 48 := by
  induction n using Nat.strongRecOn with
  | _ n ih =>
    by_cases h : n < 10
    · rw [decDigits, dif_pos h]
      intro e
      have e2 : UInt8.ofNat (48 + n) = 48 := by simpa using e
      have := congrArg UInt8.toNat e2
      rw [ofNat_dig n h] at this
      simp at this; omega
    · rw [decDigits, dif_neg h, List.head?_append]
      have := ih (n / 10) (by omega) (by omega)
      cases hd : (decDigits (n / 10)).head? with
      | none => exact absurd (List.head?_eq_none_iff.1 hd) (decDigits_ne _)
      | some c => rw [hd] at this; simpa using this

theorem Plain.digs (n : Nat) : Plain (digs n) := by
  unfold Num.digs
  split
  · exact Plain.nil
  · exact ⟨all_decDigits n, head_decDigits n (by assumption)⟩

theorem num_digs (n : Nat) : num (digs n) = n := by
  unfold Num.digs
  split
  · simp [num]; omega
  · exact num_decDigits n

theorem digs_num {l : Bs} (h : Plain l) : digs (num l) = l := by
  suffices ∀ k (l : Bs), l.length = k → Plain l → digs (num l) = l from this _ l rfl h
  intro k
  induction k with
  | zero => intro l hl _; rw [List.length_eq_zero_iff.1 hl]; rfl
  | succ k ih =>
    intro l hl h
    obtain ⟨r, c, rfl⟩ : ∃ r c, l = r ++ [c] := by
      have : l ≠ [] := by intro e; rw [e] at hl; simp at hl
      exact ⟨l.dropLast, l.getLast this, (List.dropLast_concat_getLast this).symm⟩
    have hall := h.1
    rw [List.all_append] at hall
    simp only [List.all_cons, List.all_nil, Bool.and_true, Bool.and_eq_true] at hall
    have hc := (isDig_iff c).1 hall.2
    have hcc : UInt8.ofNat (48 + dv c) = c := by
      apply UInt8.toNat_inj.1
      rw [ofNat_dig _ (by unfold dv; omega)]; unfold dv; omega
    by_cases hr : r = []
    · subst hr
      have h0 : c ≠ 48 := by have := h.2; simpa using this
      have h1 : c.toNat ≠ 48 := fun e => h0 (UInt8.toNat_inj.1 (by simpa using e))
      simp only [List.nil_append]
      rw [num_cons]
      simp only [List.length_nil, Nat.pow_zero, Nat.mul_one, num_nil, Nat.add_zero]
      unfold Num.digs
      rw [if_neg (by unfold dv; omega), decDigits, dif_pos (by unfold dv; omega), hcc]
    · have hp : Plain r := ⟨hall.1, by
        have := h.2
        rw [List.head?_append] at this
        cases hd : r.head? with
        | none => exact absurd (List.head?_eq_none_iff.1 hd) hr
        | some d => rw [hd] at this; simpa using this⟩
      have hpos := num_pos hp hr
      have hl' : r.length = k := by simpa using hl
      have := ih r hl' hp
      rw [num_snoc]
      have hd9 : dv c ≤ 9 := by unfold dv; omega
      unfold Num.digs at this ⊢
      rw [if_neg (by omega)] at this
      rw [if_neg (by omega), decDigits, dif_neg (by omega)]
      rw [show (10 * num r + dv c) / 10 = num r by omega, show (10 * num r + dv c) % 10 = dv c by omega, this, hcc]

theorem digs_inj {a b : Nat} (h : digs a = digs b) : a = b := by rw [← num_digs a, h, num_digs]
theorem digs_nil {n : Nat} : digs n = [] ↔ n = 0 := by
  constructor
  · intro h; rw [← num_digs n, h]; rfl
  · rintro rfl; rfl
theorem num_inj {l m : Bs} (hl : Plain l) (hm : Plain m) (h : num l = num m) : l = m := by rw [← digs_num hl, h, digs_num hm]

/-! ### strings -/

def cut (l : Bs) : Bool × Bs := if l.head? = some 45 then (true, l.tail) else (false, l)
def strip (l : Bs) : Bs := l.dropWhile (· == 48)
/-- the digits of the value, without leading zeros -/
def sdig (l : Bs) : Bs := if (cut l).2.all isDig then strip (cut l).2 else []
/-- whether the value is negative -/
def sneg (l : Bs) : Bool := (cut l).1 && !(sdig l).isEmpty
def mag (l : Bs) : Nat := num (sdig l)
/-- the value of a string -/
def val (l : Bs) : Int := if sneg l then -(mag l : Int) else mag l
/-- the canonical text of an integer -/
def canon (z : Int) : Bs := if z < 0 then 45 :: digs z.natAbs else digs z.natAbs
/-- the text that sign and digits make -/
def joined (n : Bool) (d : Bs) : Bs := if n && !d.isEmpty then 45 :: d else d

theorem all_strip (l : Bs) (h : l.all isDig = true) : (strip l).all isDig = true := by
  unfold strip
  induction l with
  | nil => rfl
  | cons c l ih =>
    simp only [List.all_cons, Bool.and_eq_true] at h
    rw [List.dropWhile_cons]
    split
    · exact ih h.2
    · simp [h.1]; simpa using h.2

theorem head_strip (l : Bs) : (strip l).head? ≠ some 48 := by
  unfold strip
  induction l with
  | nil => simp
  | cons c l ih =>
    rw [List.dropWhile_cons]
    split
    · exact ih
    · rename_i h; simpa using h

theorem Plain.sdig (l : Bs) : Plain (sdig l) := by
  unfold Num.sdig
  split
  · exact ⟨all_strip _ (by assumption), head_strip _⟩
  · exact Plain.nil

theorem strip_of_plain {l : Bs} (h : Plain l) : strip l = l := by
  unfold strip
  cases l with
  | nil => rfl
  | cons c l =>
    rw [List.dropWhile_cons, if_neg]
    have := h.2
    simpa using this

theorem dig_ne_minus {c : UInt8} (h : isDig c = true) : c ≠ 45 := by
  rintro rfl; revert h; decide

theorem cut_of_plain {l : Bs} (h : l.all isDig = true) : cut l = (false, l) := by
  unfold cut
  rw [if_neg]
  cases l with
  | nil => simp
  | cons c l =>
    simp only [List.all_cons, Bool.and_eq_true] at h
    have := dig_ne_minus h.1
    simpa using this
theorem cut_minus (l : Bs) : cut (45 :: l) = (true, l) := rfl

theorem sdig_of_plain {l : Bs} (h : Plain l) : sdig l = l := by
  unfold Num.sdig; rw [cut_of_plain h.1]; simp [h.1, strip_of_plain h]
theorem sdig_minus {l : Bs} (h : Plain l) : sdig (45 :: l) = l := by
  unfold Num.sdig; rw [cut_minus]; simp [h.1, strip_of_plain h]

theorem sneg_of_plain {l : Bs} (h : Plain l) : sneg l = false := by
  unfold sneg; rw [cut_of_plain h.1]; rfl
theorem sneg_minus {l : Bs} (h : Plain l) (hl : l ≠ []) : sneg (45 :: l) = true := by
  unfold sneg; rw [cut_minus, sdig_minus h]; cases l with
  | nil => exact absurd rfl hl
  | cons => rfl

theorem sdig_canon (z : Int) : sdig (canon z) = digs z.natAbs := by
  unfold canon; split
  · exact sdig_minus (Plain.digs _)
  · exact sdig_of_plain (Plain.digs _)
theorem sneg_canon (z : Int) : sneg (canon z) = decide (z < 0) := by
  unfold canon; split
  · rw [sneg_minus (Plain.digs _) (by rw [Ne, digs_nil]; omega)]; simp [*]
  · rw [sneg_of_plain (Plain.digs _)]; simp; omega
theorem val_canon (z : Int) : val (canon z) = z := by
  unfold val mag
  rw [sdig_canon, sneg_canon, num_digs]
  by_cases h : z < 0 <;> simp [h] <;> omega
theorem canon_inj {a b : Int} (h : canon a = canon b) : a = b := by rw [← val_canon a, h, val_canon]

theorem sneg_mag {l : Bs} (h : sneg l = true) : 0 < mag l := by
  unfold sneg at h
  simp only [Bool.and_eq_true, Bool.not_eq_true', List.isEmpty_eq_false_iff] at h
  exact num_pos (Plain.sdig l) h.2
theorem val_neg_iff (l : Bs) : val l < 0 ↔ sneg l = true := by
  unfold val
  constructor
  · intro h; by_cases hs : sneg l = true
    · exact hs
    · rw [if_neg hs] at h; omega
  · intro h; have := sneg_mag h; rw [if_pos h]; omega
theorem natAbs_val (l : Bs) : (val l).natAbs = mag l := by
  unfold val; split <;> omega
theorem sdig_val (l : Bs) : sdig l = digs (val l).natAbs := by
  rw [natAbs_val]; exact (digs_num (Plain.sdig l)).symm
theorem sneg_val (l : Bs) : sneg l = decide (val l < 0) := by
  rw [Bool.eq_iff_iff, decide_eq_true_iff]; exact (val_neg_iff l).symm

theorem joined_canon (z : Int) : joined (decide (z < 0)) (digs z.natAbs) = canon z := by
  unfold joined canon
  by_cases h : z < 0
  · have : (digs z.natAbs).isEmpty = false := by rw [List.isEmpty_eq_false_iff, Ne, digs_nil]; omega
    simp [h, this]
  · simp [h]
theorem joined_val (l : Bs) : joined (sneg l) (sdig l) = canon (val l) := by rw [sneg_val, sdig_val, joined_canon]
theorem joined_neg (z : Int) : joined (!decide (z < 0)) (digs z.natAbs) = canon (-z) := by
  unfold joined canon
  rw [show (-z).natAbs = z.natAbs by omega]
  by_cases h : z < 0
  · rw [if_neg (show ¬ -z < 0 by omega)]; simp [h]
  · by_cases h0 : z = 0
    · subst h0; rfl
    · have : (digs z.natAbs).isEmpty = false := by rw [List.isEmpty_eq_false_iff, Ne, digs_nil]; omega
      rw [if_pos (show -z < 0 by omega)]; simp [h, this]

/-- canonical is: the text of the value -/
theorem canon_val_of {l : Bs} (h : canon (val l) = l) : ∃ z, l = canon z := ⟨val l, h.symm⟩

theorem sdig_length (l : Bs) : (sdig l).length ≤ l.length := by
  unfold sdig
  split
  · unfold strip cut
    split
    · have h1 := (List.dropWhile_sublist (l := l.tail) (· == 48)).length_le
      have := List.length_tail (l := l); simp only; omega
    · exact (List.dropWhile_sublist (l := l) (· == 48)).length_le
  · simp

end Go.Proofs.YtldohkfomdcpoaaGreatDoor.Num
