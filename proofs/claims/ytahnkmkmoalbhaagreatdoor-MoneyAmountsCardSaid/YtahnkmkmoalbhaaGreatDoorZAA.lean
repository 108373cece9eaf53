/- The plain mathematics of decimal texts: values of byte lists, canonical texts, groups of nine digits. It imports nothing of the program. -/
import Derived.Test.YtahnkmkmoalbhaaGreatDoorProg
import Derived.Test.YtahnkmkmoalbhaaGreatDoorShelf
import Derived.Deep.OwnRows
import Derived.KernelRfl
import Derived.Lib.Hide
import Derived.Lib.ItoaNum
import Derived.Outline
import Derived.Shelf.Lays
import Derived.Shelf.Strings.Builder1
import Derived.WalkKit
import Derived.WalkLawsBesides
import Derived.WalkSpells
namespace Go.Proofs.YtahnkmkmoalbhaaGreatDoor.Num
open Go.Lib (decDigits)

abbrev Bs := List UInt8

/-- the base of the groups -/
abbrev B : Int := 1000000000

def isDig (c : UInt8) : Bool := decide (48 ≤ c.toNat) && decide (c.toNat ≤ 57)
def dv (c : UInt8) : Nat := c.toNat - 48
def num (l : Bs) : Nat := l.foldl (fun n c => 10 * n + dv c) 0

theorem foldl_num (l : Bs) (a : Nat) : l.foldl (fun n c => 10 * n + dv c) a = a * 10 ^ l.length + num l := by
  induction l generalizing a with
  | nil => simp [num]
  | cons c l ih =>
    simp only [num, List.foldl_cons, List.length_cons, Nat.pow_succ]
    rw [ih, ih (10 * 0 + dv c), Nat.add_mul, Nat.add_mul]
    have e : 10 * a * 10 ^ l.length = a * (10 ^ l.length * 10) := by rw [Nat.mul_comm 10 a, Nat.mul_assoc, Nat.mul_comm 10]
    omega

theorem num_nil : num [] = 0 := rfl
theorem num_cons (c : UInt8) (l : Bs) : num (c :: l) = dv c * 10 ^ l.length + num l := by
  show List.foldl _ _ l = _
  rw [foldl_num]; simp
theorem num_append (l m : Bs) : num (l ++ m) = num l * 10 ^ m.length + num m := by
  unfold num; rw [List.foldl_append, foldl_num]; rfl
theorem num_snoc (l : Bs) (c : UInt8) : num (l ++ [c]) = 10 * num l + dv c := by
  rw [num_append, num_cons]; simp [num]; omega

theorem isDig_iff (c : UInt8) : isDig c = true ↔ 48 ≤ c.toNat ∧ c.toNat ≤ 57 := by simp [isDig]

theorem num_lt (l : Bs) (h : l.all isDig = true) : num l < 10 ^ l.length := by
  induction l with
  | nil => simp [num]
  | cons c l ih =>
    simp only [List.all_cons, Bool.and_eq_true] at h
    have hc := (isDig_iff c).1 h.1
    have := ih h.2
    rw [num_cons, List.length_cons, Nat.pow_succ]
    have h9 : dv c ≤ 9 := by unfold dv; omega
    have := Nat.mul_le_mul_right (10 ^ l.length) h9
    omega

theorem num_ge (c : UInt8) (l : Bs) (h : isDig c = true) (h0 : c ≠ 48) : 10 ^ l.length ≤ num (c :: l) := by
  have hc := (isDig_iff c).1 h
  have : c.toNat ≠ 48 := fun e => h0 (UInt8.toNat_inj.1 (by simpa using e))
  rw [num_cons]
  have h1 : 1 ≤ dv c := by unfold dv; omega
  have := Nat.mul_le_mul_right (10 ^ l.length) h1
  omega

/-- digits without a leading zero -/
def Plain (l : Bs) : Prop := l.all isDig = true ∧ l.head? ≠ some 48

theorem Plain.nil : Plain [] := ⟨rfl, by simp⟩

theorem num_pos {l : Bs} (h : Plain l) (hl : l ≠ []) : 0 < num l := by
  cases l with
  | nil => exact absurd rfl hl
  | cons c l =>
    have := num_ge c l (by have := h.1; simp only [List.all_cons, Bool.and_eq_true] at this; exact this.1) (by have := h.2; simpa using this)
    have := Nat.pow_pos (n := l.length) (show 0 < 10 by decide)
    omega

/-- the digits of a number, none for 0 -/
def digs (n : Nat) : Bs := if n = 0 then [] else decDigits n

theorem ofNat_dig (d : Nat) (h : d < 10) : (UInt8.ofNat (48 + d)).toNat = 48 + d := by
  rw [UInt8.toNat_ofNat']; omega
theorem isDig_ofNat (d : Nat) (h : d < 10) : isDig (UInt8.ofNat (48 + d)) = true := by
  rw [isDig_iff, ofNat_dig d h]; omega
theorem dv_ofNat (d : Nat) (h : d < 10) : dv (UInt8.ofNat (48 + d)) = d := by
  unfold dv; rw [ofNat_dig d h]; omega

theorem num_decDigits (n : Nat) : num (decDigits n) = n := by
  induction n using Nat.strongRecOn with
  | _ n ih =>
    by_cases h : n < 10
    · rw [decDigits, dif_pos h, num_cons, dv_ofNat n h]; simp [num]
    · rw [decDigits, dif_neg h, num_snoc, ih (n / 10) (by omega), dv_ofNat _ (by omega)]; omega

theorem all_decDigits (n : Nat) : (decDigits n).all isDig = true := by
  induction n using Nat.strongRecOn with
  | _ n ih =>
    by_cases h : n < 10
    · rw [decDigits, dif_pos h, List.all_cons, isDig_ofNat n h]; rfl
    · rw [decDigits, dif_neg h, List.all_append, ih (n / 10) (by omega), List.all_cons, isDig_ofNat (n % 10) (by omega)]; rfl

theorem decDigits_ne (n : Nat) : decDigits n ≠ [] := by
  by_cases h : n < 10
  · rw [decDigits, dif_pos h]; simp
  · rw [decDigits, dif_neg h]; simp

theorem head_decDigits (n : Nat) (h0 : n ≠ 0) : (decDigits n).head? ≠ some 48 := by
  induction n using Nat.strongRecOn with
  | _ n ih =>
    by_cases h : n < 10
    · rw [decDigits, dif_pos h]
      intro e
      have e2 : UInt8.ofNat (48 + n) = 48 := by simpa using e
      have := congrArg UInt8.toNat e2
      rw [ofNat_dig n h] at this
      simp at this; omega
    · rw [decDigits, dif_neg h, List.head?_append]
      have := ih (n / 10) (by omega) (by omega)
      cases hd : (decDigits (n / 10)).head? with
      | none => exact absurd (List.head?_eq_none_iff.1 hd) (decDigits_ne _)
      | some c => rw [hd] at this; simpa using this

theorem Plain.digs (n : Nat) : Plain (digs n) := by
  unfold Num.digs
  split
  · exact Plain.nil
  · exact ⟨all_decDigits n, head_decDigits n (by assumption)⟩

theorem num_digs (n : Nat) : num (digs n) = n := by
  unfold Num.digs
  split
  · simp [num]; omega
  · exact num_decDigits n

theorem digs_num {l : Bs} (h : Plain l) : digs (num l) = l := by
  suffices ∀ k (l : Bs), l.length = k → Plain l → digs (num l) = l from this _ l rfl h
  intro k
  induction k with
  | zero => intro l hl _; rw [List.length_eq_zero_iff.1 hl]; rfl
  | succ k ih =>
    intro l hl h
    obtain ⟨r, c, rfl⟩ : ∃ r c, l = r ++ [c] := by
      have : l ≠ [] := by intro e; rw [e] at hl; simp at hl
      exact ⟨l.dropLast, l.getLast this, (List.dropLast_concat_getLast this).symm⟩
    have hall := h.1
    rw [List.all_append] at hall
    simp only [List.all_cons, List.all_nil, Bool.and_true, Bool.and_eq_true] at hall
    have hc := (isDig_iff c).1 hall.2
    have hcc : UInt8.ofNat (48 + dv c) = c := by
      apply UInt8.toNat_inj.1
      rw [ofNat_dig _ (by unfold dv; omega)]; unfold dv; omega
    by_cases hr : r = []
    · subst hr
      have h0 : c ≠ 48 := by have := h.2; simpa using this
      have h1 : c.toNat ≠ 48 := fun e => h0 (UInt8.toNat_inj.1 (by simpa using e))
      simp only [List.nil_append]
      rw [num_cons]
      simp only [List.length_nil, Nat.pow_zero, Nat.mul_one, num_nil, Nat.add_zero]
      unfold Num.digs
      rw [if_neg (by unfold dv; omega), decDigits, dif_pos (by unfold dv; omega), hcc]
    · have hp : Plain r := ⟨hall.1, by
        have := h.2
        rw [List.head?_append] at this
        cases hd : r.head? with
        | none => exact absurd (List.head?_eq_none_iff.1 hd) hr
        | some d => rw [hd] at this; simpa using this⟩
      have hpos := num_pos hp hr
      have hl' : r.length = k := by simpa using hl
      have := ih r hl' hp
      rw [num_snoc]
      have hd9 : dv c ≤ 9 := by unfold dv; omega
      unfold Num.digs at this ⊢
      rw [if_neg (by omega)] at this
      rw [if_neg (by omega), decDigits, dif_neg (by omega)]
      rw [show (10 * num r + dv c) / 10 = num r by omega, show (10 * num r + dv c) % 10 = dv c by omega, this, hcc]

theorem digs_nil {n : Nat} : digs n = [] ↔ n = 0 := by
  constructor
  · intro h; rw [← num_digs n, h]; rfl
  · rintro rfl; rfl
/-! ### strings -/

def cut (l : Bs) : Bool × Bs := if l.head? = some 45 then (true, l.tail) else (false, l)
def strip (l : Bs) : Bs := l.dropWhile (· == 48)
/-- the digits of the value, without leading zeros -/
def sdig (l : Bs) : Bs := if (cut l).2.all isDig then strip (cut l).2 else []
/-- whether the value is negative -/
def sneg (l : Bs) : Bool := (cut l).1 && !(sdig l).isEmpty
def mag (l : Bs) : Nat := num (sdig l)
/-- the value of a string -/
def val (l : Bs) : Int := if sneg l then -(mag l : Int) else mag l
/-- the canonical text of an integer -/
def canon (z : Int) : Bs := if z < 0 then 45 :: digs z.natAbs else digs z.natAbs
/-- the text that sign and digits make -/
def joined (n : Bool) (d : Bs) : Bs := if n && !d.isEmpty then 45 :: d else d

theorem all_strip (l : Bs) (h : l.all isDig = true) : (strip l).all isDig = true := by
  unfold strip
  induction l with
  | nil => rfl
  | cons c l ih =>
    simp only [List.all_cons, Bool.and_eq_true] at h
    rw [List.dropWhile_cons]
    split
    · exact ih h.2
    · simp [h.1]; simpa using h.2

theorem head_strip (l : Bs) : (strip l).head? ≠ some 48 := by
  unfold strip
  induction l with
  | nil => simp
  | cons c l ih =>
    rw [List.dropWhile_cons]
    split
    · exact ih
    · rename_i h; simpa using h

theorem Plain.sdig (l : Bs) : Plain (sdig l) := by
  unfold Num.sdig
  split
  · exact ⟨all_strip _ (by assumption), head_strip _⟩
  · exact Plain.nil

theorem strip_of_plain {l : Bs} (h : Plain l) : strip l = l := by
  unfold strip
  cases l with
  | nil => rfl
  | cons c l =>
    rw [List.dropWhile_cons, if_neg]
    have := h.2
    simpa using this

theorem dig_ne_minus {c : UInt8} (h : isDig c = true) : c ≠ 45 := by
  rintro rfl; revert h; decide

theorem cut_of_plain {l : Bs} (h : l.all isDig = true) : cut l = (false, l) := by
  unfold cut
  rw [if_neg]
  cases l with
  | nil => simp
  | cons c l =>
    simp only [List.all_cons, Bool.and_eq_true] at h
    have := dig_ne_minus h.1
    simpa using this
theorem cut_minus (l : Bs) : cut (45 :: l) = (true, l) := rfl

theorem sdig_of_plain {l : Bs} (h : Plain l) : sdig l = l := by
  unfold Num.sdig; rw [cut_of_plain h.1]; simp [h.1, strip_of_plain h]
theorem sdig_minus {l : Bs} (h : Plain l) : sdig (45 :: l) = l := by
  unfold Num.sdig; rw [cut_minus]; simp [h.1, strip_of_plain h]

theorem sneg_of_plain {l : Bs} (h : Plain l) : sneg l = false := by
  unfold sneg; rw [cut_of_plain h.1]; rfl
theorem sneg_minus {l : Bs} (h : Plain l) (hl : l ≠ []) : sneg (45 :: l) = true := by
  unfold sneg; rw [cut_minus, sdig_minus h]; cases l with
  | nil => exact absurd rfl hl
  | cons => rfl

theorem sdig_canon (z : Int) : sdig (canon z) = digs z.natAbs := by
  unfold canon; split
  · exact sdig_minus (Plain.digs _)
  · exact sdig_of_plain (Plain.digs _)
theorem sneg_canon (z : Int) : sneg (canon z) = decide (z < 0) := by
  unfold canon; split
  · rw [sneg_minus (Plain.digs _) (by rw [Ne, digs_nil]; omega)]; simp [*]
  · rw [sneg_of_plain (Plain.digs _)]; simp; omega
theorem val_canon (z : Int) : val (canon z) = z := by
  unfold val mag
  rw [sdig_canon, sneg_canon, num_digs]
  by_cases h : z < 0 <;> simp [h] <;> omega
theorem canon_inj {a b : Int} (h : canon a = canon b) : a = b := by rw [← val_canon a, h, val_canon]

theorem sneg_mag {l : Bs} (h : sneg l = true) : 0 < mag l := by
  unfold sneg at h
  simp only [Bool.and_eq_true, Bool.not_eq_true', List.isEmpty_eq_false_iff] at h
  exact num_pos (Plain.sdig l) h.2
theorem val_neg_iff (l : Bs) : val l < 0 ↔ sneg l = true := by
  unfold val
  constructor
  · intro h; by_cases hs : sneg l = true
    · exact hs
    · rw [if_neg hs] at h; omega
  · intro h; have := sneg_mag h; rw [if_pos h]; omega
theorem natAbs_val (l : Bs) : (val l).natAbs = mag l := by
  unfold val; split <;> omega
theorem sdig_val (l : Bs) : sdig l = digs (val l).natAbs := by
  rw [natAbs_val]; exact (digs_num (Plain.sdig l)).symm
theorem sneg_val (l : Bs) : sneg l = decide (val l < 0) := by
  rw [Bool.eq_iff_iff, decide_eq_true_iff]; exact (val_neg_iff l).symm

theorem joined_canon (z : Int) : joined (decide (z < 0)) (digs z.natAbs) = canon z := by
  unfold joined canon
  by_cases h : z < 0
  · have : (digs z.natAbs).isEmpty = false := by rw [List.isEmpty_eq_false_iff, Ne, digs_nil]; omega
    simp [h, this]
  · simp [h]
theorem joined_val (l : Bs) : joined (sneg l) (sdig l) = canon (val l) := by rw [sneg_val, sdig_val, joined_canon]
theorem joined_neg (z : Int) : joined (!decide (z < 0)) (digs z.natAbs) = canon (-z) := by
  unfold joined canon
  rw [show (-z).natAbs = z.natAbs by omega]
  by_cases h : z < 0
  · rw [if_neg (show ¬ -z < 0 by omega)]; simp [h]
  · by_cases h0 : z = 0
    · subst h0; rfl
    · have : (digs z.natAbs).isEmpty = false := by rw [List.isEmpty_eq_false_iff, Ne, digs_nil]; omega
      rw [if_pos (show -z < 0 by omega)]; simp [h, this]

theorem sdig_length (l : Bs) : (sdig l).length ≤ l.length := by
  unfold sdig
  split
  · unfold strip cut
    split
    · have h1 := (List.dropWhile_sublist (l := l.tail) (· == 48)).length_le
      have := List.length_tail (l := l); simp only; omega
    · exact (List.dropWhile_sublist (l := l) (· == 48)).length_le
  · simp

end Go.Proofs.YtahnkmkmoalbhaaGreatDoor.Num

/- The contracts of strings.Builder's WriteByte and WriteString at this program. -/
namespace Go.Proofs
open Go.Shelf
def Tryz.laysW166_ren : Go.Shelf.Ren := ⟨fun | 166 => 122 | 240 => 154 | 276 => 174 | n => n, fun | 0 => 0 | 3 => 3 | 4 => 4 | 5 => 5 | 9 => 9 | 20 => 20 | 37 => 115 | 70 => 143 | 72 => 145 | 75 => 147 | 80 => 151 | 164 => 189 | n => n, fun | n => n⟩
theorem Tryz.laysW166 : Go.Proofs.Lays.n166 Tryz.prog Tryz.laysW166_ren := {
  mixed := by kernel_rfl
  f166 := Tryz.func122.trans (congrArg some (by kernel_rfl))
  f240 := Tryz.func154.trans (congrArg some (by kernel_rfl))
  f276 := Tryz.func174.trans (congrArg some (by kernel_rfl))
  t0 := Tryz.underlying0
  a0 := Tryz.isAgg0
  z0 := Tryz.sizeOf0
  v0 := Tryz.zeroValue0
  t3 := Tryz.underlying3
  a3 := Tryz.isAgg3
  z3 := Tryz.sizeOf3
  v3 := Tryz.zeroValue3
  t4 := Tryz.underlying4
  a4 := Tryz.isAgg4
  z4 := Tryz.sizeOf4
  v4 := Tryz.zeroValue4
  t9 := Tryz.underlying9
  a9 := Tryz.isAgg9
  z9 := Tryz.sizeOf9
  v9 := Tryz.zeroValue9
  t20 := Tryz.underlying20
  a20 := Tryz.isAgg20
  z20 := Tryz.sizeOf20
  v20 := Tryz.zeroValue20
  t37 := Tryz.underlying115
  a37 := Tryz.isAgg115
  z37 := Tryz.sizeOf115
  v37 := Tryz.zeroValue115
  t70 := Tryz.underlying143
  a70 := Tryz.isAgg143
  z70 := Tryz.sizeOf143
  v70 := Tryz.zeroValue143
  t72 := Tryz.underlying145
  a72 := Tryz.isAgg145
  z72 := Tryz.sizeOf145
  v72 := Tryz.zeroValue145
  t75 := Tryz.underlying147
  a75 := Tryz.isAgg147
  z75 := Tryz.sizeOf147
  v75 := Tryz.zeroValue147
  t164 := Tryz.underlying189
  a164 := Tryz.isAgg189
  z164 := Tryz.sizeOf189
  v164 := Tryz.zeroValue189 }
theorem Tryz.extraW166 : Builder.Extra Tryz.prog Tryz.laysW166_ren := {
  sizeBuilder := by kernel_rfl
  liesBuilder := by kernel_rfl
  t5 := Tryz.underlying5
  a5 := Tryz.isAgg5
  z5 := Tryz.sizeOf5
  v5 := Tryz.zeroValue5
  infoByte := by kernel_rfl
  cellsByte := by kernel_rfl
  sizeByte := by kernel_rfl
  neB5 := by decide }
def Tryz.laysW167_ren : Go.Shelf.Ren := ⟨fun | 167 => 121 | 240 => 154 | 276 => 174 | n => n, fun | 0 => 0 | 3 => 3 | 4 => 4 | 5 => 5 | 9 => 9 | 20 => 20 | 37 => 115 | 70 => 143 | 72 => 145 | 75 => 147 | 80 => 151 | 164 => 189 | n => n, fun | n => n⟩
theorem Tryz.laysW167 : Go.Proofs.Lays.n167 Tryz.prog Tryz.laysW167_ren := {
  mixed := by kernel_rfl
  f167 := Tryz.func121.trans (congrArg some (by kernel_rfl))
  f240 := Tryz.func154.trans (congrArg some (by kernel_rfl))
  f276 := Tryz.func174.trans (congrArg some (by kernel_rfl))
  t0 := Tryz.underlying0
  a0 := Tryz.isAgg0
  z0 := Tryz.sizeOf0
  v0 := Tryz.zeroValue0
  t4 := Tryz.underlying4
  a4 := Tryz.isAgg4
  z4 := Tryz.sizeOf4
  v4 := Tryz.zeroValue4
  t5 := Tryz.underlying5
  a5 := Tryz.isAgg5
  z5 := Tryz.sizeOf5
  v5 := Tryz.zeroValue5
  t9 := Tryz.underlying9
  a9 := Tryz.isAgg9
  z9 := Tryz.sizeOf9
  v9 := Tryz.zeroValue9
  t20 := Tryz.underlying20
  a20 := Tryz.isAgg20
  z20 := Tryz.sizeOf20
  v20 := Tryz.zeroValue20
  t37 := Tryz.underlying115
  a37 := Tryz.isAgg115
  z37 := Tryz.sizeOf115
  v37 := Tryz.zeroValue115
  t70 := Tryz.underlying143
  a70 := Tryz.isAgg143
  z70 := Tryz.sizeOf143
  v70 := Tryz.zeroValue143
  t72 := Tryz.underlying145
  a72 := Tryz.isAgg145
  z72 := Tryz.sizeOf145
  v72 := Tryz.zeroValue145
  t75 := Tryz.underlying147
  a75 := Tryz.isAgg147
  z75 := Tryz.sizeOf147
  v75 := Tryz.zeroValue147
  t164 := Tryz.underlying189
  a164 := Tryz.isAgg189
  z164 := Tryz.sizeOf189
  v164 := Tryz.zeroValue189 }
theorem Tryz.extraW167 : Builder.Extra Tryz.prog Tryz.laysW167_ren := {
  sizeBuilder := by kernel_rfl
  liesBuilder := by kernel_rfl
  t5 := Tryz.underlying5
  a5 := Tryz.isAgg5
  z5 := Tryz.sizeOf5
  v5 := Tryz.zeroValue5
  infoByte := by kernel_rfl
  cellsByte := by kernel_rfl
  sizeByte := by kernel_rfl
  neB5 := by decide }
open Go.RowKit in
theorem Tryz.Builder_WriteByte (B b : Nat) (bs : List Value) (c : Int) (w : World) (h : Lib.IsBuilder 145 5 B b bs w) (hlen : bs.length + 1 ≤ 140737488355328) (hBw : B ≤ w.heap.size) :
    Calls Tryz.prog 121 #[.pointer (some ⟨b, 0, none⟩), .int .u8 c] w fun e w' => e = .returned .nilIface ∧ (Lib.BuilderAt 145 5 B b (.pointer (some ⟨b, 0, none⟩)) (bs ++ [.int .u8 c]) w' ∧ Below B w w') := Any.Builder_WriteByte Tryz.laysW167 Tryz.extraW167 B b bs c w h hlen hBw
open Go.RowKit in
theorem Tryz.Builder_WriteString (B b : Nat) (bs : List Value) (s : ByteArray) (w : World) (h : Lib.IsBuilder 145 5 B b bs w) (hlen : bs.length + s.size ≤ 140737488355328) (hBw : B ≤ w.heap.size) :
    Calls Tryz.prog 122 #[.pointer (some ⟨b, 0, none⟩), .string s] w fun e w' => e = .returned (.tuple #[.int .i64 s.size, .nilIface]) ∧ (Lib.BuilderAt 145 5 B b (.pointer (some ⟨b, 0, none⟩)) (bs ++ Lib.strCells s) w' ∧ Below B w w') := Any.Builder_WriteString Tryz.laysW166 Tryz.extraW166 B b bs s w h hlen hBw
end Go.Proofs

/- The plain mathematics of numbers in groups of nine digits, the lowest group first: value, sums in place, products, quotients. It imports nothing of the program. -/
namespace Go.Proofs.YtahnkmkmoalbhaaGreatDoor.Num
open Go.Lib (decDigits)

def gval : List Int → Int
  | [] => 0
  | g :: gs => g + B * gval gs

def Norm (zs : List Int) : Prop := ∀ z ∈ zs, 0 ≤ z ∧ z < B
def Can (zs : List Int) : Prop := Norm zs ∧ zs.getLast? ≠ some 0

theorem Norm.nil : Norm [] := fun _ h => by cases h
theorem Can.nil : Can [] := ⟨Norm.nil, by simp⟩
theorem Norm.cons {z : Int} {zs : List Int} (h0 : 0 ≤ z) (h1 : z < B) (h : Norm zs) : Norm (z :: zs) := fun x hx => by
  rcases List.mem_cons.1 hx with rfl | hx
  · exact ⟨h0, h1⟩
  · exact h x hx
theorem Norm.append {xs ys : List Int} (h : Norm xs) (k : Norm ys) : Norm (xs ++ ys) := fun z hz => by
  rcases List.mem_append.1 hz with hz | hz
  · exact h z hz
  · exact k z hz
theorem Norm.left {xs ys : List Int} (h : Norm (xs ++ ys)) : Norm xs := fun z hz => h z (List.mem_append.2 (.inl hz))
theorem Norm.right {xs ys : List Int} (h : Norm (xs ++ ys)) : Norm ys := fun z hz => h z (List.mem_append.2 (.inr hz))
theorem Norm.take {xs : List Int} (h : Norm xs) (k : Nat) : Norm (xs.take k) := fun z hz => h z (List.mem_of_mem_take hz)
theorem Norm.drop {xs : List Int} (h : Norm xs) (k : Nat) : Norm (xs.drop k) := fun z hz => h z (List.mem_of_mem_drop hz)
theorem Norm.zeros (n : Nat) : Norm (List.replicate n 0) := fun z hz => by
  rw [List.eq_of_mem_replicate hz]; decide
theorem Norm.at {xs : List Int} (h : Norm xs) {i : Nat} (hi : i < xs.length) : 0 ≤ xs[i] ∧ xs[i] < B := h _ (List.getElem_mem hi)
theorem Norm.one {z : Int} (h0 : 0 ≤ z) (h1 : z < B) : Norm [z] := Norm.cons h0 h1 Norm.nil

theorem Bpow_pos (n : Nat) : 0 < B ^ n := Int.pow_pos (by decide)

theorem gval_append (xs ys : List Int) : gval (xs ++ ys) = gval xs + B ^ xs.length * gval ys := by
  induction xs with
  | nil => simp [gval]
  | cons x xs ih =>
    simp only [List.cons_append, gval, List.length_cons, Int.pow_succ]
    rw [ih, Int.mul_add, Int.add_assoc, Int.mul_comm (B ^ xs.length) B, Int.mul_assoc]
theorem gval_one (z : Int) : gval [z] = z := by simp [gval]
theorem gval_snoc (xs : List Int) (z : Int) : gval (xs ++ [z]) = gval xs + B ^ xs.length * z := by rw [gval_append, gval_one]
theorem gval_zeros (n : Nat) : gval (List.replicate n 0) = 0 := by
  induction n with
  | zero => rfl
  | succ n ih => simp [List.replicate_succ, gval, ih]

theorem gval_bounds {zs : List Int} (h : Norm zs) : 0 ≤ gval zs ∧ gval zs < B ^ zs.length := by
  induction zs with
  | nil => simp [gval]
  | cons z zs ih =>
    have hz := h z (List.mem_cons_self ..)
    have := ih (fun x hx => h x (List.mem_cons_of_mem _ hx))
    simp only [gval, List.length_cons, Int.pow_succ]
    generalize gval zs = g at this ⊢
    generalize B ^ zs.length = p at this ⊢
    unfold B at *
    omega
theorem gval_nonneg {zs : List Int} (h : Norm zs) : 0 ≤ gval zs := (gval_bounds h).1
theorem gval_lt {zs : List Int} (h : Norm zs) : gval zs < B ^ zs.length := (gval_bounds h).2

theorem Can.tail {z : Int} {zs : List Int} (h : Can (z :: zs)) : Can zs := by
  refine ⟨fun x hx => h.1 x (List.mem_cons_of_mem _ hx), ?_⟩
  have := h.2
  cases zs with
  | nil => simp
  | cons y ys => simpa [List.getLast?_cons_cons] using this

theorem gval_pos {zs : List Int} (h : Can zs) (h0 : zs ≠ []) : 0 < gval zs := by
  induction zs with
  | nil => exact absurd rfl h0
  | cons z zs ih =>
    have hz := h.1 z (List.mem_cons_self ..)
    by_cases hzs : zs = []
    · subst hzs
      have := h.2
      simp at this
      simp only [gval]; omega
    · have := ih h.tail hzs
      simp only [gval]; unfold B at *; omega

theorem gval_ge {zs : List Int} (h : Can zs) (h0 : zs ≠ []) : B ^ (zs.length - 1) ≤ gval zs := by
  obtain ⟨r, c, rfl⟩ : ∃ r c, zs = r ++ [c] := ⟨zs.dropLast, zs.getLast h0, (List.dropLast_concat_getLast h0).symm⟩
  have h1 := h.2
  have hc := h.1 c (by simp)
  rw [List.getLast?_append] at h1
  simp at h1
  rw [gval_snoc]
  have hr := gval_nonneg h.1.left
  have hp := Bpow_pos r.length
  simp only [List.length_append, List.length_cons, List.length_nil, Nat.add_sub_cancel, Nat.zero_add]
  have := Int.mul_le_mul_of_nonneg_left (show 1 ≤ c by omega) (Int.le_of_lt hp)
  omega

theorem gval_eq_zero {zs : List Int} (h : Can zs) : gval zs = 0 ↔ zs = [] := by
  constructor
  · intro e
    by_cases h0 : zs = []
    · exact h0
    · have := gval_pos h h0; omega
  · rintro rfl; rfl

theorem gval_inj : ∀ {xs ys : List Int}, Can xs → Can ys → gval xs = gval ys → xs = ys
  | [], ys, _, hy, e => ((gval_eq_zero hy).1 e.symm).symm
  | x :: xs, [], hx, _, e => (gval_eq_zero hx).1 e
  | x :: xs, y :: ys, hx, hy, e => by
    have h1 := hx.1 x (List.mem_cons_self ..)
    have h2 := hy.1 y (List.mem_cons_self ..)
    simp only [gval] at e
    have e1 : x = y := by unfold B at *; omega
    have e2 : gval xs = gval ys := by unfold B at *; omega
    rw [e1, gval_inj hx.tail hy.tail e2]

theorem Bpow_mono {m n : Nat} (h : m ≤ n) : B ^ m ≤ B ^ n := by
  obtain ⟨k, rfl⟩ := Nat.exists_eq_add_of_le h
  rw [Int.pow_add]
  have := Int.mul_le_mul_of_nonneg_left (show 1 ≤ B ^ k from Bpow_pos k) (Int.le_of_lt (Bpow_pos m))
  omega

theorem gval_lt_of_length {xs ys : List Int} (hx : Can xs) (hy : Can ys) (h : xs.length < ys.length) : gval xs < gval ys := by
  have h1 := gval_lt hx.1
  have h2 := gval_ge hy (by rintro rfl; simp at h)
  have := Bpow_mono (show xs.length ≤ ys.length - 1 by omega)
  omega

/-- two numbers of one length, equal above place i -/
theorem gval_lt_at {xs ys : List Int} (hx : Norm xs) (hy : Norm ys) (i : Nat) (hxi : i < xs.length) (hyi : i < ys.length) (hup : xs.drop (i + 1) = ys.drop (i + 1)) (h : xs[i] < ys[i]) : gval xs < gval ys := by
  have ex : xs = xs.take i ++ xs[i] :: xs.drop (i + 1) := by rw [← List.drop_eq_getElem_cons hxi, List.take_append_drop]
  have ey : ys = ys.take i ++ ys[i] :: ys.drop (i + 1) := by rw [← List.drop_eq_getElem_cons hyi, List.take_append_drop]
  have h1 := gval_lt (hx.take i)
  have h2 := gval_nonneg (hy.take i)
  rw [ex, ey, gval_append, gval_append, hup]
  rw [List.length_take, Nat.min_eq_left (by omega)] at h1
  rw [List.length_take, List.length_take, Nat.min_eq_left (by omega), Nat.min_eq_left (by omega)]
  simp only [gval]
  generalize gval (List.drop (i + 1) ys) = G at *
  have h4 : B ^ i * (xs[i] + B * G) + B ^ i ≤ B ^ i * (ys[i] + B * G) := by
    have := Int.mul_le_mul_of_nonneg_left (show xs[i] + B * G + 1 ≤ ys[i] + B * G by omega) (Int.le_of_lt (Bpow_pos i))
    rw [Int.mul_add, Int.mul_one] at this
    exact this
  omega

/-! ### zeros at the end -/

/-- what trim leaves -/
def trimmed (zs : List Int) : List Int := (zs.reverse.dropWhile (· == 0)).reverse

theorem trimmed_snoc_zero (zs : List Int) : trimmed (zs ++ [0]) = trimmed zs := by simp [trimmed]
theorem trimmed_snoc (zs : List Int) {z : Int} (h : z ≠ 0) : trimmed (zs ++ [z]) = zs ++ [z] := by
  simp [trimmed, h]
theorem gval_trimmed (zs : List Int) : gval (trimmed zs) = gval zs := by
  suffices ∀ n (zs : List Int), zs.length = n → gval (trimmed zs) = gval zs from this _ zs rfl
  intro n
  induction n with
  | zero => intro zs h; rw [List.length_eq_zero_iff.1 h]; rfl
  | succ n ih =>
    intro zs h
    have h0 : zs ≠ [] := by rintro rfl; simp at h
    obtain ⟨r, c, rfl⟩ : ∃ r c, zs = r ++ [c] := ⟨zs.dropLast, zs.getLast h0, (List.dropLast_concat_getLast h0).symm⟩
    by_cases hc : c = 0
    · subst hc
      rw [trimmed_snoc_zero, ih r (by simpa using h), gval_snoc]; simp
    · rw [trimmed_snoc r hc]
theorem trimmed_prefix (zs : List Int) : trimmed zs <+: zs := by
  unfold trimmed
  have := List.dropWhile_suffix (l := zs.reverse) (· == 0)
  rw [← List.reverse_prefix] at this
  simpa using this
theorem Can.trimmed {zs : List Int} (h : Norm zs) : Can (trimmed zs) := by
  refine ⟨fun z hz => h z ((trimmed_prefix zs).subset hz), ?_⟩
  unfold Num.trimmed
  rw [List.getLast?_reverse]
  have := List.head?_dropWhile_not (fun x : Int => x == 0) zs.reverse
  cases hd : (List.dropWhile (fun x => x == 0) zs.reverse).head? with
  | none => simp
  | some c => rw [hd] at this; simpa using this
/-! ### from digits to groups -/

def seg (d : Bs) (i : Nat) : Bs := (d.take (d.length - 9 * i)).drop (d.length - 9 * (i + 1))
def grps (d : Bs) : List Int := (List.range ((d.length + 8) / 9)).map fun i => (num (seg d i) : Int)

theorem grps_length (d : Bs) : (grps d).length = (d.length + 8) / 9 := by simp [grps]

theorem all_seg {d : Bs} (h : d.all isDig = true) (i : Nat) : (seg d i).all isDig = true := by
  rw [List.all_eq_true] at *
  intro c hc
  exact h c (List.mem_of_mem_take (List.mem_of_mem_drop hc))
theorem seg_length (d : Bs) (i : Nat) : (seg d i).length ≤ 9 := by
  simp [seg]; omega
theorem num_seg_lt {d : Bs} (h : d.all isDig = true) (i : Nat) : num (seg d i) < 1000000000 := by
  have h1 := num_lt _ (all_seg h i)
  have := Nat.pow_le_pow_right (show 1 ≤ 10 by decide) (seg_length d i)
  omega

theorem take_seg (d : Bs) (k : Nat) : d.take (d.length - 9 * k) = d.take (d.length - 9 * (k + 1)) ++ seg d k := by
  conv => lhs; rw [← List.take_append_drop (d.length - 9 * (k + 1)) (d.take (d.length - 9 * k))]
  rw [List.take_take, Nat.min_eq_left (by omega)]
  rfl

theorem gval_range (d : Bs) (k : Nat) : gval ((List.range k).map fun i => (num (seg d i) : Int)) + B ^ k * num (d.take (d.length - 9 * k)) = num d := by
  induction k with
  | zero => simp [gval]
  | succ k ih =>
    rw [List.range_succ, List.map_append, List.map_cons, List.map_nil, gval_snoc]
    rw [take_seg d k, num_append] at ih
    simp only [List.length_map, List.length_range]
    rw [Int.natCast_add, Int.natCast_mul] at ih
    rw [← ih, Int.pow_succ, Int.mul_add, Int.add_assoc]
    congr 1
    rw [Int.add_comm]
    congr 1
    by_cases h : 9 * (k + 1) ≤ d.length
    · have hl : (seg d k).length = 9 := by simp [seg]; omega
      rw [hl, Int.mul_assoc, Int.mul_comm ((num (List.take (d.length - 9 * (k + 1)) d) : Nat) : Int)]
      congr 1
    · rw [show d.length - 9 * (k + 1) = 0 by omega]
      simp [num]

theorem gval_grps (d : Bs) : gval (grps d) = num d := by
  have := gval_range d ((d.length + 8) / 9)
  rw [show d.length - 9 * ((d.length + 8) / 9) = 0 by omega] at this
  simp [num] at this
  exact this

theorem Can.grps {d : Bs} (h : Plain d) : Can (grps d) := by
  refine ⟨fun z hz => ?_, ?_⟩
  · obtain ⟨i, _, rfl⟩ := List.mem_map.1 hz
    have := num_seg_lt h.1 i
    unfold B
    omega
  · by_cases h0 : d = []
    · subst h0; simp [Num.grps]
    · obtain ⟨k, hk⟩ : ∃ k, (d.length + 8) / 9 = k + 1 := ⟨(d.length + 8) / 9 - 1, by
        have := List.length_pos_iff.2 h0; omega⟩
      unfold Num.grps
      rw [hk, List.range_succ, List.map_append, List.map_cons, List.map_nil, List.getLast?_append]
      simp only [List.getLast?_singleton, Option.some_or, ne_eq, Option.some.injEq]
      have e : seg d k = d.take (d.length - 9 * k) := by
        unfold seg; rw [show d.length - 9 * (k + 1) = 0 by omega, List.drop_zero]
      have hp : Plain (seg d k) := by
        refine ⟨all_seg h.1 k, ?_⟩
        rw [e]
        have := h.2
        cases d with
        | nil => simp
        | cons c d =>
          rw [show (c :: d).length - 9 * k = ((c :: d).length - 9 * k - 1) + 1 by simp at hk ⊢; omega, List.take_succ_cons]
          simpa using this
      have := num_pos hp (by
        rw [e]
        intro hn
        have := congrArg List.length hn
        simp at this
        omega)
      omega

/-! ### from groups to digits -/

theorem decDigits_pad (k : Nat) : ∀ (n g : Nat), 1 ≤ n → g < 10 ^ k → decDigits (n * 10 ^ k + g) = decDigits n ++ (decDigits (10 ^ k + g)).tail := by
  induction k with
  | zero =>
    intro n g hn hg
    obtain rfl : g = 0 := by simpa using hg
    simp only [Nat.pow_zero, Nat.mul_one, Nat.add_zero]
    rw [show (decDigits 1).tail = [] by rw [decDigits, dif_pos (by decide)]; rfl, List.append_nil]
  | succ k ih =>
    intro n g hn hg
    rw [Nat.pow_succ] at hg ⊢
    have hp : 1 ≤ 10 ^ k := Nat.one_le_pow _ _ (by decide)
    have h1 : 10 ^ k ≤ n * 10 ^ k := by have := Nat.mul_le_mul_right (10 ^ k) hn; omega
    have e1 : n * (10 ^ k * 10) + g = 10 * (n * 10 ^ k) + g := by rw [← Nat.mul_assoc, Nat.mul_comm]
    rw [e1]
    have q1 : (10 * (n * 10 ^ k) + g) / 10 = n * 10 ^ k + g / 10 := by omega
    have q2 : (10 * (n * 10 ^ k) + g) % 10 = g % 10 := by omega
    have q3 : (10 ^ k * 10 + g) / 10 = 10 ^ k + g / 10 := by omega
    have q4 : (10 ^ k * 10 + g) % 10 = g % 10 := by omega
    have e2 : decDigits (10 ^ k * 10 + g) = decDigits (10 ^ k + g / 10) ++ [UInt8.ofNat (48 + g % 10)] := by
      rw [decDigits, dif_neg (by omega), q3, q4]
    rw [decDigits, dif_neg (by omega), q1, q2, e2]
    rw [ih n (g / 10) hn (by omega), List.tail_append_of_ne_nil (decDigits_ne _), List.append_assoc]

def pad9 (g : Int) : Bs := (Lib.itoa (1000000000 + g)).tail

theorem itoa_nat (n : Nat) : Lib.itoa (n : Int) = decDigits n := by
  unfold Lib.itoa; rw [if_neg (by omega)]; simp

/-- the digits of a number that is more than 0 -/
def dig1 (z : Int) : Bs := decDigits z.toNat

theorem dig1_step {n g : Int} (hn : 1 ≤ n) (h0 : 0 ≤ g) (h1 : g < B) : dig1 (g + B * n) = dig1 n ++ pad9 g := by
  obtain ⟨a, rfl⟩ := Int.eq_ofNat_of_zero_le (show 0 ≤ n by omega)
  obtain ⟨b, rfl⟩ := Int.eq_ofNat_of_zero_le h0
  have := decDigits_pad 9 a b (by omega) (by unfold B at h1; omega)
  unfold dig1 pad9
  rw [show ((b : Int) + B * a).toNat = a * 10 ^ 9 + b by unfold B; omega, show (a : Int).toNat = a by omega, this,
    show (1000000000 : Int) + b = ((1000000000 + b : Nat) : Int) by omega, itoa_nat]

theorem dig1_itoa {n : Int} (hn : 0 ≤ n) : Lib.itoa n = dig1 n := by
  obtain ⟨a, rfl⟩ := Int.eq_ofNat_of_zero_le hn
  rw [itoa_nat]; rfl

theorem canon_pos {z : Int} (h : 0 < z) : canon z = dig1 z := by
  unfold canon digs dig1
  rw [if_neg (by omega), if_neg (by omega)]
  congr 1; omega
theorem canon_neg {z : Int} (h : 0 < z) : canon (-z) = 45 :: dig1 z := by
  unfold canon digs dig1
  rw [if_pos (by omega), if_neg (by omega)]
  congr 2; omega
end Go.Proofs.YtahnkmkmoalbhaaGreatDoor.Num

/- What the walks share: the strings of values, the package variables that the library reads, and how both last while new memory is made. -/
namespace Go.Proofs.YtahnkmkmoalbhaaGreatDoor
open Go.RowKit

/-- the value of a string, and the canonical text of an integer, as Go's strings -/
def vS (s : ByteArray) : Int := Num.val s.data.toList
def cS (z : Int) : ByteArray := ⟨(Num.canon z).toArray⟩

theorem vS_cS (z : Int) : vS (cS z) = z := by unfold vS cS; simp [Num.val_canon]

theorem var_below {P : Program} {w w' : World} {name : String} {cs : Array Value} (h : w.var? P name = some cs) (hb : Below w.heap.size w w') : w'.var? P name = some cs := by
  unfold World.var? at *
  cases hg : P.globalNamed name with
  | none => simp [hg] at h
  | some g =>
    simp only [hg, Option.bind_some] at h ⊢
    have hlt : g < w.heap.size := by
      rcases Nat.lt_or_ge g w.heap.size with h' | h'
      · exact h'
      · rw [Array.getElem?_eq_none h'] at h; simp at h
    rw [hb.block g hlt]
    exact h

/-- the package variables of the library hold what their texts lay -/
structure Ground (w : World) : Prop where
  tab : Lib.TabIs Tryz.prog w "internal/strconv.uint64pow10" .u64 Lib.pow10Tab
  max : ∃ m, w.cell? ⟨0, 0, none⟩ = some (.int .i64 m)

theorem cell_below {w w' : World} {g : Nat} {v : Value} (h : w.cell? ⟨g, 0, none⟩ = some v) (hb : Below w.heap.size w w') : w'.cell? ⟨g, 0, none⟩ = some v := by
  unfold World.cell? at *
  have hlt : g < w.heap.size := by
    rcases Nat.lt_or_ge g w.heap.size with h' | h'
    · exact h'
    · simp only [Array.getElem?_eq_none h'] at h; simp at h
  simp only [hb.block g hlt]
  exact h
theorem Ground.below {w w' : World} (h : Ground w) (hb : Below w.heap.size w w') : Ground w' :=
  ⟨var_below h.tab hb, h.max.elim fun m h => ⟨m, cell_below h hb⟩⟩

theorem below_grow {w : World} (k : Nat) (os : Array Obj) : Below w.heap.size w (Sort.grow (w.drewN k) os) :=
  ⟨rfl, rfl, rfl, by simp [Sort.grow], fun i hi => by
    show (w.heap ++ os)[i]? = _
    rw [Array.getElem?_append_left hi]⟩

theorem size_toList (s : ByteArray) : s.data.toList.length = s.size := (Lib.size_eq s).symm

end Go.Proofs.YtahnkmkmoalbhaaGreatDoor

/- integer.split, join, Canonical, Neg, Check, Print: walks. -/
namespace Go.Proofs.YtahnkmkmoalbhaaGreatDoor
open Go.RowKit

theorem cut_shelf (l : List UInt8) : Num.cut l = (Lib.hasPrefix l [45], Lib.trimPrefix l [45]) := by
  unfold Num.cut Lib.trimPrefix Lib.hasPrefix
  cases l with
  | nil => rfl
  | cons c l =>
    by_cases h : c = 45
    · subst h; simp
    · have h2 : (45 == c) = false := by simpa using fun e => h e.symm
      have h3 : List.isPrefixOf [45] (c :: l) = false := by simp [List.isPrefixOf, h2]
      rw [h3]; simp [h]

theorem cut_length (l : List UInt8) : (Num.cut l).2.length ≤ l.length := by
  unfold Num.cut; split <;> simp

/-- a byte that is not a digit -/
theorem not_dig {c : UInt8} (h : (c.toNat : Int) < 48 ∨ 57 < (c.toNat : Int)) : Num.isDig c = false := by
  rw [Bool.eq_false_iff]; intro e; have := (Num.isDig_iff c).1 e; omega

theorem all_take_succ {d : List UInt8} {k : Nat} (h : (d.take k).all Num.isDig = true) (hk : k < d.length) (h1 : ¬ (d[k].toNat : Int) < 48) (h2 : ¬ 57 < (d[k].toNat : Int)) : (d.take (k + 1)).all Num.isDig = true := by
  rw [List.take_succ_eq_append_getElem hk, List.all_append, h]
  simp [Num.isDig_iff]; omega

theorem not_all_at {d : List UInt8} {k : Nat} (hk : k < d.length) (h : (d[k].toNat : Int) < 48 ∨ 57 < (d[k].toNat : Int)) : d.all Num.isDig = false := by
  rw [Bool.eq_false_iff]; intro e
  have := List.all_eq_true.1 e _ (List.getElem_mem hk)
  rw [not_dig h] at this; simp at this

theorem split_bad {l d : List UInt8} {ng : Bool} (h : (ng, d) = Num.cut l) (hd : d.all Num.isDig = false) : Num.sneg l = false ∧ Num.sdig l = [] := by
  have : Num.sdig l = [] := by unfold Num.sdig; rw [← h]; simp only [hd]; rfl
  refine ⟨?_, this⟩
  unfold Num.sneg; rw [this]; simp
theorem split_good {l d : List UInt8} {ng : Bool} (h : (ng, d) = Num.cut l) (hd : d.all Num.isDig = true) : Num.sneg l = (ng && !(Lib.trimLeftB d 48).isEmpty) ∧ Num.sdig l = Lib.trimLeftB d 48 := by
  have : Num.sdig l = Lib.trimLeftB d 48 := by unfold Num.sdig; rw [← h]; simp only [hd]; rfl
  refine ⟨?_, this⟩
  unfold Num.sneg; rw [this, ← h]

theorem minus_append (d : List UInt8) : (ByteArray.mk #[45]) ++ (ByteArray.mk d.toArray) = ⟨(45 :: d).toArray⟩ := by
  apply ByteArray.ext
  simp [ByteArray.data_append]
theorem byte_at (D : ByteArray) (k : Nat) (_ : k < D.size) (h' : k < D.data.toList.length) : D.data.toList[k] = D[k] := by
  rw [Array.getElem_toList]; rfl

set_option maxHeartbeats 400000 in
theorem split_any (s : ByteArray) (w : World) (hs : s.size ≤ maxLen) :
    Calls Tryz.prog 83 #[.string s] w fun e w' => e = .returned (.tuple #[.bool (Num.sneg s.data.toList), .string ⟨(Num.sdig s.data.toList).toArray⟩]) ∧ w = w' := by
  obtain ⟨ng, D, hcut⟩ : ∃ ng, ∃ D : ByteArray, (ng, D.data.toList) = Num.cut s.data.toList := ⟨(Num.cut s.data.toList).1, ⟨(Num.cut s.data.toList).2.toArray⟩, rfl⟩
  have h1 : Lib.hasPrefix s.data.toList [45] = ng := by rw [cut_shelf] at hcut; exact (Prod.mk.inj hcut).1.symm
  have h2 : (ByteArray.mk (Lib.trimPrefix s.data.toList [45]).toArray) = D := by rw [cut_shelf] at hcut; rw [← (Prod.mk.inj hcut).2]
  have hd : D.size ≤ 9223372036854775807 := by
    have := cut_length s.data.toList
    rw [← hcut, size_toList] at this
    unfold maxLen at hs
    simp only [size_toList] at this; omega
  have HC := Lib.hid hcut
  clear hcut
  go_enter Tryz.func83, Tryz.ntmps83
  go_wp2_with (go_at_call 118; refine (Tryz.strings_CutPrefix _ _ _).mono ?_; rintro e w' ⟨rfl, rfl⟩)
  clear h1 h2
  go_loop [14] (fun i => ∃ k : Nat, k ≤ D.size ∧ i = .int .i64 k ∧ (D.data.toList.take k).all Num.isDig = true) (fun i => D.size - (intOf i).toNat)
  case atStart => exact ⟨0, Nat.zero_le _, rfl, rfl⟩
  case round =>
    obtain ⟨k, hk, rfl, ha⟩ := hrel
    have HA := Lib.hid ha
    clear ha
    by_cases hlt : k < D.size
    · have hlt' : k < D.data.toList.length := by rw [size_toList]; exact hlt
      have HB := Lib.hid (byte_at D k hlt hlt')
      by_cases b1 : ((D[k]'hlt).toNat : Int) < 48
      · have H := Lib.hid (split_bad HC.out (not_all_at hlt' (.inl (by rw [HB.out]; exact b1))))
        clear HB hlt'
        go_wp2
        go_ret2
        exact ⟨by rw [H.out.1, H.out.2]; rfl, rfl⟩
      · by_cases b2 : 57 < ((D[k]'hlt).toNat : Int)
        · have H := Lib.hid (split_bad HC.out (not_all_at hlt' (.inr (by rw [HB.out]; exact b2))))
          clear HB hlt'
          go_wp2
          go_ret2
          exact ⟨by rw [H.out.1, H.out.2]; rfl, rfl⟩
        · have H := Lib.hid (all_take_succ HA.out hlt' (by rw [HB.out]; exact b1) (by rw [HB.out]; exact b2))
          clear HB hlt'
          go_wp2
          go_round
          case rel => exact ⟨k + 1, by omega, by go_num, H.out⟩
          case measure => simp [intOf]; omega
    · have ha : D.data.toList.all Num.isDig = true := by have := HA.out; rw [List.take_of_length_le (by rw [size_toList]; omega)] at this; exact this
      have H := Lib.hid (split_good HC.out ha)
      clear ha
      cases ng <;> go_wp2_with (go_at_call 119; refine (Tryz.strings_TrimLeft_one _ _ (by decide) _).mono ?_; rintro e w' ⟨rfl, rfl⟩)
      · go_ret2
        exact ⟨by rw [H.out.1, H.out.2]; simp, rfl⟩
      · go_ret2
        exact ⟨by rw [H.out.1, H.out.2]; simp, rfl⟩

set_option maxHeartbeats 400000 in
theorem join_any (n : Bool) (d : List UInt8) (w : World) (hd : d.length < 9223372036854775807) :
    Calls Tryz.prog 84 #[.bool n, .string ⟨d.toArray⟩] w fun e w' => e = .returned (.string ⟨(Num.joined n d).toArray⟩) ∧ w = w' := by
  cases n
  · go_enter Tryz.func84, Tryz.ntmps84
    go_wp2
    go_ret
    exact ⟨rfl, rfl⟩
  · have h0 : ¬ 9223372036854775807 < 1 + d.length := by omega
    cases hb : d.isEmpty
    · have hb' : (!d.isEmpty) = true := by rw [hb]; rfl
      have H := Lib.hid hb
      clear hb
      go_enter Tryz.func84, Tryz.ntmps84
      go_wp2
      go_ret
      exact ⟨by unfold Num.joined; rw [H.out]; simp [minus_append], rfl⟩
    · have hb' : (!d.isEmpty) = false := by rw [hb]; rfl
      have H := Lib.hid hb
      clear hb
      go_enter Tryz.func84, Tryz.ntmps84
      go_wp2
      go_ret
      exact ⟨by unfold Num.joined; rw [H.out]; simp, rfl⟩

end Go.Proofs.YtahnkmkmoalbhaaGreatDoor

/- integer.Canonical, Neg, Check, Print, Parse, Of, Compare: walks by contracts. -/
namespace Go.Proofs.YtahnkmkmoalbhaaGreatDoor
open Go.RowKit

theorem sdig_lim {s : ByteArray} (hs : s.size ≤ 4294967296) : (Num.sdig s.data.toList).length < 9223372036854775807 := by
  have := Num.sdig_length s.data.toList
  rw [size_toList] at this; omega
theorem lim_max {s : ByteArray} (hs : s.size ≤ 4294967296) : s.size ≤ maxLen := by unfold maxLen; omega

set_option maxHeartbeats 400000 in
theorem canonical_any (s : ByteArray) (w : World) (hs : s.size ≤ 4294967296) :
    Calls Tryz.prog 73 #[.string s] w fun e w' => e = .returned (.string (cS (vS s))) ∧ w = w' := by
  have hl := sdig_lim hs
  have hm := lim_max hs
  go_enter Tryz.func73, Tryz.ntmps73
  go_wp2_with (first | (go_at_call 83; refine (split_any _ _ hm).mono ?_; rintro e w' ⟨rfl, rfl⟩) | (go_at_call 84; refine (join_any _ _ _ hl).mono ?_; rintro e w' ⟨rfl, rfl⟩))
  go_ret
  exact ⟨by rw [Num.joined_val]; rfl, rfl⟩

set_option maxHeartbeats 400000 in
theorem neg_any (s : ByteArray) (w : World) (hs : s.size ≤ 4294967296) :
    Calls Tryz.prog 57 #[.string s] w fun e w' => e = .returned (.string (cS (- vS s))) ∧ w = w' := by
  have hl := sdig_lim hs
  have hm := lim_max hs
  go_enter Tryz.func57, Tryz.ntmps57
  go_wp2_with (first | (go_at_call 83; refine (split_any _ _ hm).mono ?_; rintro e w' ⟨rfl, rfl⟩) | (go_at_call 84; refine (join_any _ _ _ hl).mono ?_; rintro e w' ⟨rfl, rfl⟩))
  go_ret
  exact ⟨by rw [Num.sneg_val, Num.sdig_val, Num.joined_neg]; rfl, rfl⟩

/-- the text of an integer: as the canonical one, but "0" for 0 -/
def pS (z : Int) : ByteArray := ⟨(Lib.itoa z).toArray⟩
/-- is the string canonical? -/
def isCan (s : ByteArray) : Bool := decide (cS (vS s) = s)
/-- the error of Check -/
def chk (s : ByteArray) : Int := if isCan s then 0 else 1

theorem beq_toList (a b : ByteArray) : (a.toList == b.toList) = decide (a = b) := by
  rw [Bool.eq_iff_iff, beq_iff_eq, decide_eq_true_iff, Lib.toList_data, Lib.toList_data]
  constructor
  · intro h; apply ByteArray.ext; exact Array.toList_inj.1 h
  · rintro rfl; rfl
theorem cS_inj {a b : Int} (h : cS a = cS b) : a = b := by rw [← vS_cS a, h, vS_cS]
theorem cS_nil (z : Int) : (cS z).toList = Num.canon z := by rw [Lib.toList_data]; rfl
theorem cS_empty (z : Int) : (cS z).toList.isEmpty = decide (z = 0) := by
  rw [cS_nil, Bool.eq_iff_iff, decide_eq_true_iff, List.isEmpty_iff]
  constructor
  · intro h; apply Num.canon_inj; rw [h]; rfl
  · rintro rfl; rfl
theorem pS_of_ne {z : Int} (h : z ≠ 0) : pS z = cS z := by
  unfold pS cS Lib.itoa Num.canon Num.digs
  by_cases h0 : z < 0
  · rw [if_pos h0, if_pos h0, if_neg (by omega)]
  · rw [if_neg h0, if_neg h0, if_neg (by omega)]; congr 3; omega
theorem pS_zero : pS 0 = ⟨#[48]⟩ := by unfold pS Lib.itoa; rw [if_neg (by decide)]; rw [Lib.decDigits_one (by decide)]; rfl

set_option maxHeartbeats 400000 in
theorem check_any (s : ByteArray) (w : World) (hs : s.size ≤ 4294967296) :
    Calls Tryz.prog 39 #[.string s] w fun e w' => e = .returned (.int .i64 (chk s)) ∧ w = w' := by
  have hb := beq_toList (cS (vS s)) s
  cases hc : isCan s
  · have H := Lib.hid (show chk s = 1 by unfold chk; rw [hc]; rfl)
    unfold isCan at hc
    rw [hc] at hb
    clear hc
    go_enter Tryz.func39, Tryz.ntmps39
    go_wp2_with (first | (go_at_call 73; refine (canonical_any _ _ hs).mono ?_; rintro e w' ⟨rfl, rfl⟩))
    go_ret
    exact ⟨by rw [H.out]; rfl, rfl⟩
  · have H := Lib.hid (show chk s = 0 by unfold chk; rw [hc]; rfl)
    unfold isCan at hc
    rw [hc] at hb
    clear hc
    go_enter Tryz.func39, Tryz.ntmps39
    go_wp2_with (first | (go_at_call 73; refine (canonical_any _ _ hs).mono ?_; rintro e w' ⟨rfl, rfl⟩))
    go_ret
    exact ⟨by rw [H.out]; rfl, rfl⟩

set_option maxHeartbeats 400000 in
theorem print_any (s : ByteArray) (w : World) (hs : s.size ≤ 4294967296) :
    Calls Tryz.prog 120 #[.string s] w fun e w' => e = .returned (.string (pS (vS s))) ∧ w = w' := by
  have hb := cS_empty (vS s)
  by_cases h0 : vS s = 0
  · rw [decide_eq_true h0] at hb
    have H := Lib.hid h0
    clear h0
    go_enter Tryz.func120, Tryz.ntmps120
    go_wp2_with (first | (go_at_call 73; refine (canonical_any _ _ hs).mono ?_; rintro e w' ⟨rfl, rfl⟩))
    go_ret
    exact ⟨by rw [H.out, pS_zero]; rfl, rfl⟩
  · rw [decide_eq_false h0] at hb
    have H := Lib.hid h0
    clear h0
    go_enter Tryz.func120, Tryz.ntmps120
    go_wp2_with (first | (go_at_call 73; refine (canonical_any _ _ hs).mono ?_; rintro e w' ⟨rfl, rfl⟩))
    go_ret
    exact ⟨by rw [pS_of_ne H.out]; rfl, rfl⟩

end Go.Proofs.YtahnkmkmoalbhaaGreatDoor

/- integer.Compare and Parse: walks. -/
namespace Go.Proofs.YtahnkmkmoalbhaaGreatDoor
open Go.RowKit

/-- -1, 0 or 1, as the first number is less than, equal to, or greater than the second -/
def cmp3 (a b : Int) : Int := if a < b then -1 else if b < a then 1 else 0
theorem cmp3_lt {a b : Int} (h : a < b) : cmp3 a b = -1 := by unfold cmp3; rw [if_pos h]
theorem cmp3_gt {a b : Int} (h : b < a) : cmp3 a b = 1 := by unfold cmp3; rw [if_neg (by omega), if_pos h]
theorem cmp3_eq {a b : Int} (h : a = b) : cmp3 a b = 0 := by unfold cmp3; rw [if_neg (by omega), if_neg (by omega)]
theorem vS_neg {s : ByteArray} (h : Num.sneg s.data.toList = true) : vS s = -(Num.num (Num.sdig s.data.toList) : Int) ∧ vS s < 0 := by
  have h2 := (Num.val_neg_iff s.data.toList).2 h
  refine ⟨?_, h2⟩
  unfold vS Num.val; rw [if_pos h]; rfl
theorem vS_pos {s : ByteArray} (h : Num.sneg s.data.toList = false) : vS s = (Num.num (Num.sdig s.data.toList) : Int) ∧ 0 ≤ vS s := by
  have e : vS s = (Num.num (Num.sdig s.data.toList) : Int) := by unfold vS Num.val; rw [if_neg (by rw [h]; simp)]; rfl
  exact ⟨e, by omega⟩

/-! ### Parse -/

end Go.Proofs.YtahnkmkmoalbhaaGreatDoor

/- integer.Small: the walk, by the contracts of strconv.ParseInt. -/
namespace Go.Proofs.YtahnkmkmoalbhaaGreatDoor
open Go.RowKit

theorem pS_list (z : Int) : (pS z).data.toList = Lib.itoa z := rfl

end Go.Proofs.YtahnkmkmoalbhaaGreatDoor

/- Rows of numbers in memory: a block that a call made whole, and slices that are only read. -/
namespace Go.Proofs.YtahnkmkmoalbhaaGreatDoor
open Go.RowKit

/-- block b holds the numbers zs, nothing of it frozen -/
def Row (w : World) (b : Nat) (zs : List Int) : Prop := w.heap[b]? = some (.cells (zs.map (Value.int .i64)).toArray 3 (0, 0))

/-- the numbers zs lie in block b from place o on: they can be read -/
structure Sl (w : World) (b o cap : Nat) (zs : List Int) : Prop where
  lt : b < w.heap.size
  le : zs.length ≤ cap
  max : cap ≤ 1099511627776
  cell : ∀ i, i < zs.length → w.cell? ⟨b, o + i, none⟩ = some (.int .i64 (zs.getD i 0))

theorem Row.lt {w : World} {b : Nat} {zs : List Int} (h : Row w b zs) : b < w.heap.size := by
  rcases Nat.lt_or_ge b w.heap.size with h' | h'
  · exact h'
  · unfold Row at h; rw [Array.getElem?_eq_none h'] at h; simp at h
theorem Row.cell {w : World} {b : Nat} {zs : List Int} (h : Row w b zs) {i : Nat} (hi : i < zs.length) : w.cell? ⟨b, i, none⟩ = some (.int .i64 (zs.getD i 0)) := by
  rw [cell_of_row w b i _ _ _ h]
  simp [hi]
theorem Row.frozen {w : World} {b : Nat} {zs : List Int} (h : Row w b zs) (i : Nat) : w.frozen? ⟨b, i, none⟩ = false := frozen_of_row w b i _ _ h
theorem Row.of_block {w w' : World} {b : Nat} {zs : List Int} (h : Row w b zs) (e : w'.heap[b]? = w.heap[b]?) : Row w' b zs := by
  unfold Row at *; rw [e]; exact h
theorem Row.set {w : World} {b : Nat} {zs : List Int} (h : Row w b zs) (i : Nat) (v : Int) : Row (w.setCell ⟨b, i, none⟩ (.int .i64 v)) b (zs.set i v) := by
  have := heap_setCell_same w b i _ _ (.int .i64 v) h
  unfold Row
  rw [this, List.map_set]
  simp
theorem Row.below {B : Nat} {w w' : World} {b : Nat} {zs : List Int} (h : Row w b zs) (hb : Below B w w') (hlt : b < B) : Row w' b zs := h.of_block (hb.block b hlt)
theorem Row.sl {w : World} {b : Nat} {zs : List Int} (h : Row w b zs) {cap : Nat} (hc : zs.length ≤ cap) (hm : cap ≤ 1099511627776) : Sl w b 0 cap zs :=
  ⟨h.lt, hc, hm, fun i hi => by rw [Nat.zero_add]; exact h.cell hi⟩
theorem Row.part {w : World} {b o : Nat} {zs ys : List Int} (h : Row w b zs) (e : ∀ i, i < ys.length → o + i < zs.length ∧ ys.getD i 0 = zs.getD (o + i) 0) {cap : Nat} (hc : ys.length ≤ cap) (hm : cap ≤ 1099511627776) : Sl w b o cap ys :=
  ⟨h.lt, hc, hm, fun i hi => by rw [h.cell (e i hi).1, (e i hi).2]⟩

theorem Sl.below {B : Nat} {w w' : World} {b o cap : Nat} {zs : List Int} (h : Sl w b o cap zs) (hb : Below B w w') (hlt : b < B) : Sl w' b o cap zs :=
  ⟨Nat.lt_of_lt_of_le h.lt hb.size, h.le, h.max, fun i hi => (hb.cell (p := ⟨b, o + i, none⟩) hlt).trans (h.cell i hi)⟩
theorem Sl.grown {w w' : World} {b o cap : Nat} {zs : List Int} {row : Option Nat} (h : Sl w b o cap zs) (hg : w.grownBy w' row) (hne : some b ≠ row) : Sl w' b o cap zs :=
  ⟨Nat.lt_of_lt_of_le h.lt hg.size, h.le, h.max, fun i hi => hg.cell (h.cell i hi) hne⟩
theorem Row.grown {w w' : World} {b : Nat} {zs : List Int} {row : Option Nat} (h : Row w b zs) (hg : w.grownBy w' row) (hne : some b ≠ row) : Row w' b zs := h.of_block (hg.block b h.lt hne)

theorem grown_refl (w : World) (row : Option Nat) : w.grownBy w row := ⟨rfl, rfl, rfl, Nat.le_refl _, fun _ _ _ => rfl⟩
theorem grown_set {w w' : World} {b i : Nat} {v : Value} (h : w.grownBy w' (some b)) : w.grownBy (w'.setCell ⟨b, i, none⟩ v) (some b) :=
  ⟨h.os, h.tape, h.output, by simpa [World.setCell] using h.size, fun k hk hne => (Below.heap_setCell w' _ _ k (fun e => hne (by rw [e]))).trans (h.block k hk hne)⟩
theorem grown_trans {a b c : World} {row : Option Nat} (h : a.grownBy b row) (k : b.grownBy c row) : a.grownBy c row :=
  ⟨k.os.trans h.os, k.tape.trans h.tape, k.output.trans h.output, Nat.le_trans h.size k.size, fun i hi hne => (k.block i (Nat.lt_of_lt_of_le hi h.size) hne).trans (h.block i hi hne)⟩
theorem grown_of_below {w w' : World} (h : Below w.heap.size w w') (row : Option Nat) : w.grownBy w' row := ⟨h.os, h.tape, h.output, h.size, fun i hi _ => h.block i hi⟩
theorem grown_drewN {a w : World} {row : Option Nat} (h : a.grownBy w row) (n : Nat) : a.grownBy (w.drewN n) row := ⟨h.os, h.tape, h.output, h.size, h.block⟩
theorem below_drewN {B : Nat} {a w : World} (h : Below B a w) (n : Nat) : Below B a (w.drewN n) := ⟨h.os, h.tape, h.output, h.size, h.block⟩
theorem Row.drewN {w : World} {b : Nat} {zs : List Int} (h : Row w b zs) (n : Nat) : Row (w.drewN n) b zs := h
theorem Sl.drewN {w : World} {b o cap : Nat} {zs : List Int} (h : Sl w b o cap zs) (n : Nat) : Sl (w.drewN n) b o cap zs := ⟨h.lt, h.le, h.max, h.cell⟩

/-- a row of n zeros, as make lays it -/
def zeroRow (n : Nat) : Obj := .cells (madeCells #[.int .i64 0] n) 3
theorem zeroRow_eq (n : Nat) : zeroRow n = .cells ((List.replicate n 0).map (Value.int .i64)).toArray 3 (0, 0) := by
  unfold zeroRow
  have : madeCells #[Value.int .i64 0] n = ((List.replicate n 0).map (Value.int .i64)).toArray := by
    apply Array.toList_inj.1; rw [toList_madeCells_one]; simp
  rw [this]
theorem Row.made (w : World) (n : Nat) : Row (w.alloc (zeroRow n)) w.heap.size (List.replicate n 0) := by
  unfold Row; rw [zeroRow_eq, heap_alloc_new]
theorem Row.alloc {w : World} {b : Nat} {zs : List Int} (h : Row w b zs) (o : Obj) : Row (w.alloc o) b zs := h.of_block (Below.heap_alloc w o b h.lt)
theorem Sl.alloc {w : World} {b o cap : Nat} {zs : List Int} (h : Sl w b o cap zs) (ob : Obj) : Sl (w.alloc ob) b o cap zs :=
  h.below ((Below.refl w.heap.size w).alloc (Nat.le_refl _) ob) h.lt

theorem Row.setOther {w : World} {b : Nat} {zs : List Int} (h : Row w b zs) {a : Addr} (hne : b ≠ a.block) (v : Value) : Row (w.setCell a v) b zs := h.of_block (Below.heap_setCell w a v b hne)
theorem Sl.setOther {w : World} {b o cap : Nat} {zs : List Int} (h : Sl w b o cap zs) {a : Addr} (hne : b ≠ a.block) (v : Value) : Sl (w.setCell a v) b o cap zs :=
  ⟨by simpa [World.setCell] using h.lt, h.le, h.max, fun i hi => (World.cell?_of_block (w := w) (a := ⟨b, o + i, none⟩) (Below.heap_setCell w a v b hne)).trans (h.cell i hi)⟩

theorem info_int : (Tryz.prog.info? 3).map (fun i => (i.zero, i.size, i.bytes)) = some (some (.int .i64 0), 1, 8) := by kernel_rfl

/-- make([]int, n), for every n that is not great -/
theorem run_makeInts (n : Nat) (hn : n ≤ 1099511627776) (w : World) :
    (Instr.makeSlice 85 (.int .i64 (n : Int)) (.int .i64 (n : Int))).run Tryz.prog w = .ok (.slice (some ⟨w.heap.size, 0, none⟩) n n) (w.alloc (zeroRow n)) := by
  obtain ⟨i0, hi, hz0, hz1, hz2⟩ := info_parts info_int
  have hr := run_make (P := Tryz.prog) w 85 3 i0 (.int .i64 0) Tryz.underlying85 hi hz0 .i64 .i64 n n (by omega) (by omega) (by rw [hz2]; omega) (by omega)
  simp only [Int.toNat_natCast] at hr
  rw [hr, hz1]
  simp [zeroRow, Value.cells]

end Go.Proofs.YtahnkmkmoalbhaaGreatDoor

/- The plain mathematics of addTimes: adding a multiple of a number in place. -/
namespace Go.Proofs.YtahnkmkmoalbhaaGreatDoor.Num

/-- k places of seg + f * ys are done: they are zs, and c is carried -/
structure Part (seg ys : List Int) (f : Int) (k : Nat) (zs : List Int) (c : Int) : Prop where
  len : zs.length = k
  norm : Norm zs
  lo : -999999999 ≤ c
  hi : c ≤ 999999999
  eq : gval zs + B ^ k * c = gval (seg.take k) + f * gval (ys.take k)

theorem Part.start (seg ys : List Int) (f : Int) : Part seg ys f 0 [] 0 := ⟨rfl, Norm.nil, by decide, by decide, by simp [gval]⟩

theorem gval_take_succ (ys : List Int) (k : Nat) : gval (ys.take (k + 1)) = gval (ys.take k) + B ^ k * ys.getD k 0 := by
  by_cases h : k < ys.length
  · rw [List.take_succ_eq_append_getElem h, gval_snoc, List.length_take, Nat.min_eq_left (by omega)]
    simp [List.getD, h]
  · rw [List.take_of_length_le (by omega), List.take_of_length_le (by omega)]
    simp [List.getD, List.getElem?_eq_none (Nat.le_of_not_lt h)]

theorem mul_bounds {f t : Int} (f0 : -999999999 ≤ f) (f1 : f ≤ 999999999) (t0 : 0 ≤ t) (t1 : t < B) : -999999998000000001 ≤ f * t ∧ f * t ≤ 999999998000000001 := by
  have h1 := Int.mul_le_mul_of_nonneg_right f1 t0
  have h2 := Int.mul_le_mul_of_nonneg_right f0 t0
  unfold B at t1
  omega

theorem Part.step {seg ys : List Int} {f : Int} {k : Nat} {zs : List Int} {c s t n : Int} (h : Part seg ys f k zs c) (hs : s = seg.getD k 0) (ht : t = ys.getD k 0)
    (s0 : 0 ≤ s) (s1 : s < B) (hb : -999999998000000001 ≤ f * t ∧ f * t ≤ 999999998000000001) (hn : n = s + c + f * t) : Part seg ys f (k + 1) (zs ++ [n % B]) (n / B) := by
  have h1 := h.lo
  have h2 := h.hi
  refine ⟨by simp [h.len], h.norm.append (Norm.one (by unfold B; omega) (by unfold B; omega)), by unfold B at *; omega, by unfold B at *; omega, ?_⟩
  rw [gval_take_succ, gval_take_succ, ← hs, ← ht, gval_snoc, h.len, Int.pow_succ]
  have e : gval zs + B ^ k * (n % B) + B ^ k * B * (n / B) = gval zs + B ^ k * n := by
    rw [Int.add_assoc, Int.mul_assoc, ← Int.mul_add]
    congr 2
    unfold B; omega
  rw [e, hn, Int.mul_add, Int.mul_add, Int.mul_add]
  have := h.eq
  have e2 : f * (B ^ k * t) = B ^ k * (f * t) := by rw [← Int.mul_assoc, Int.mul_comm f, Int.mul_assoc]
  rw [e2]
  omega

theorem Part.done {seg ys : List Int} {f : Int} {k : Nat} {zs : List Int} {c : Int} (h : Part seg ys f k zs c) (hk : seg.length = k + 1) (hy : ys.length ≤ k) :
    gval (zs ++ [seg.getD k 0 + c]) = gval seg + f * gval ys := by
  rw [gval_snoc, h.len, Int.mul_add]
  have := h.eq
  rw [List.take_of_length_le hy] at this
  have e : gval seg = gval (seg.take k) + B ^ k * seg.getD k 0 := by
    rw [← gval_take_succ, List.take_of_length_le (by omega)]
  omega

/-- zs in the place of what lies in Z from o on -/
def put (Z : List Int) (o : Nat) (zs : List Int) : List Int := Z.take o ++ (zs ++ Z.drop (o + zs.length))

theorem put_nil (Z : List Int) (o : Nat) : put Z o [] = Z := by simp [put]
theorem put_length {Z zs : List Int} {o : Nat} (h : o + zs.length ≤ Z.length) : (put Z o zs).length = Z.length := by simp [put]; omega
theorem put_snoc {Z zs : List Int} {o : Nat} (v : Int) (h : o + zs.length < Z.length) : (put Z o zs).set (o + zs.length) v = put Z o (zs ++ [v]) := by
  unfold put
  rw [List.set_append_right _ _ (by simp; omega), List.set_append_right _ _ (by simp; omega)]
  rw [show o + zs.length - (List.take o Z).length - zs.length = 0 by simp; omega]
  rw [List.drop_eq_getElem_cons h]
  simp [Nat.add_assoc]
theorem put_getD_behind {Z zs : List Int} {o j : Nat} (ho : o ≤ Z.length) (h : o + zs.length ≤ j) : (put Z o zs).getD j 0 = Z.getD j 0 := by
  unfold put
  simp only [List.getD_eq_getElem?_getD]
  rw [List.getElem?_append_right (by simp; omega), List.getElem?_append_right (by simp; omega), List.getElem?_drop]
  congr 2
  simp; omega
theorem put_getD_in {Z zs : List Int} {o j : Nat} (ho : o ≤ Z.length) (h : j < zs.length) : (put Z o zs).getD (o + j) 0 = zs.getD j 0 := by
  unfold put
  simp only [List.getD_eq_getElem?_getD]
  rw [List.getElem?_append_right (by simp; omega), List.getElem?_append_left (by simp; omega)]
  congr 2
  simp; omega
/-- what lies in Z from o on, m places -/
def part (Z : List Int) (o m : Nat) : List Int := (Z.drop o).take m
theorem part_length {Z : List Int} {o m : Nat} (h : o + m ≤ Z.length) : (part Z o m).length = m := by simp [part]; omega
theorem part_getD {Z : List Int} {o m j : Nat} (h : j < m) : (part Z o m).getD j 0 = Z.getD (o + j) 0 := by
  unfold part
  simp only [List.getD_eq_getElem?_getD]
  rw [List.getElem?_take, if_pos h, List.getElem?_drop]

theorem gval_put {Z zs : List Int} {o : Nat} (h : o + zs.length ≤ Z.length) : gval (put Z o zs) = gval Z + B ^ o * (gval zs - gval (part Z o zs.length)) := by
  have e : Z = Z.take o ++ (part Z o zs.length ++ Z.drop (o + zs.length)) := by
    unfold part
    rw [← List.drop_drop, List.take_append_drop, List.take_append_drop]
  conv => rhs; rw [e]
  unfold put
  rw [gval_append, gval_append, gval_append, gval_append]
  rw [show part (Z.take o ++ (part Z o zs.length ++ Z.drop (o + zs.length))) o zs.length = part Z o zs.length by rw [← e]]
  rw [part_length h, List.length_take, Nat.min_eq_left (by omega)]
  rw [Int.mul_add, Int.mul_add, Int.mul_sub]
  omega

/-- how addTimes fills the places: the last one takes what is carried -/
structure Filled (seg ys : List Int) (f : Int) (ws : List Int) : Prop where
  len : ws.length = seg.length
  norm : ∀ i, i + 1 < ws.length → 0 ≤ ws.getD i 0 ∧ ws.getD i 0 < B
  lo : seg.getD (seg.length - 1) 0 - 999999999 ≤ ws.getD (seg.length - 1) 0
  hi : ws.getD (seg.length - 1) 0 ≤ seg.getD (seg.length - 1) 0 + 999999999
  eq : gval ws = gval seg + f * gval ys

theorem Part.filled {seg ys : List Int} {f : Int} {k : Nat} {zs : List Int} {c : Int} (h : Part seg ys f k zs c) (hk : seg.length = k + 1) (hy : ys.length ≤ k) :
    Filled seg ys f (zs ++ [seg.getD k 0 + c]) := by
  have hl := h.len
  have hlast : (zs ++ [seg.getD k 0 + c]).getD k 0 = seg.getD k 0 + c := by
    simp only [List.getD_eq_getElem?_getD]
    rw [List.getElem?_append_right (by omega), hl]; simp
  refine ⟨by simp [hl, hk], fun i hi => ?_, ?_, ?_, h.done hk hy⟩
  · simp only [List.length_append, List.length_cons, List.length_nil] at hi
    have hi' : i < zs.length := by omega
    have := h.norm.at hi'
    simp only [List.getD_eq_getElem?_getD]
    rw [List.getElem?_append_left hi', List.getElem?_eq_getElem hi']
    exact this
  · rw [hk, Nat.add_sub_cancel, hlast]; have := h.lo; omega
  · rw [hk, Nat.add_sub_cancel, hlast]; have := h.hi; omega

/-- if the sum is not negative and starts with small last places, all places are groups -/
theorem Filled.norm_all {seg ys : List Int} {f : Int} {ws : List Int} (h : Filled seg ys f ws) (h0 : 0 ≤ gval seg + f * gval ys) (hl : seg.getD (seg.length - 1) 0 = 0) (hs : 0 < seg.length) : Norm ws := by
  have hlen := h.len
  have hne : ws ≠ [] := by rintro rfl; simp at hlen; omega
  obtain ⟨r, x, rfl⟩ : ∃ r c, ws = r ++ [c] := ⟨ws.dropLast, ws.getLast hne, (List.dropLast_concat_getLast hne).symm⟩
  simp only [List.length_append, List.length_cons, List.length_nil] at hlen
  have hr : Norm r := by
    intro z hz
    obtain ⟨i, hi, rfl⟩ := List.getElem_of_mem hz
    have := h.norm i (by simp; omega)
    simp only [List.getD_eq_getElem?_getD] at this
    rw [List.getElem?_append_left hi, List.getElem?_eq_getElem hi] at this
    exact this
  have hx : (r ++ [x]).getD (seg.length - 1) 0 = x := by
    simp only [List.getD_eq_getElem?_getD]
    rw [List.getElem?_append_right (by omega), show seg.length - 1 - r.length = 0 by omega]; simp
  have h1 := h.lo
  have h2 := h.hi
  rw [hx, hl] at h1 h2
  have he := h.eq
  rw [gval_snoc] at he
  have hg := gval_lt hr
  refine hr.append (Norm.one ?_ (by unfold B; omega))
  by_cases hneg : x < 0
  · have := Int.mul_le_mul_of_nonneg_left (show x ≤ -1 by omega) (Int.le_of_lt (Bpow_pos r.length))
    omega
  · omega

theorem Norm.put {Z zs : List Int} (h : Norm Z) (k : Norm zs) (o : Nat) : Norm (put Z o zs) := (h.take _).append (k.append (h.drop _))
theorem Norm.part {Z : List Int} (h : Norm Z) (o m : Nat) : Norm (part Z o m) := (h.drop _).take _
theorem Norm.getD {Z : List Int} (h : Norm Z) (i : Nat) : 0 ≤ Z.getD i 0 ∧ Z.getD i 0 < B := by
  by_cases hi : i < Z.length
  · have := h.at hi; simp [List.getD, hi]; exact this
  · simp [List.getD, List.getElem?_eq_none (Nat.le_of_not_lt hi)]; decide

/-- k rounds of the multiplication are done -/
structure MulInv (xs ys : List Int) (l k : Nat) (Z : List Int) : Prop where
  len : Z.length = l
  norm : Norm Z
  eq : gval Z = gval (xs.take k) * gval ys
  zero : ∀ j, k + ys.length ≤ j → Z.getD j 0 = 0

theorem MulInv.start (xs ys : List Int) (l : Nat) : MulInv xs ys l 0 (List.replicate l 0) :=
  ⟨by simp, Norm.zeros _, by simp [gval_zeros, gval], fun j _ => by simp [List.getD, List.getElem?_replicate]; split <;> rfl⟩

theorem MulInv.step {xs ys : List Int} {l k : Nat} {Z ws : List Int} (h : MulInv xs ys l k Z) (hy : Norm ys) (hx : Norm xs) (hl : k + ys.length + 1 ≤ l)
    (hf : Filled (part Z k (ys.length + 1)) ys (xs.getD k 0) ws) : MulInv xs ys l (k + 1) (put Z k ws) := by
  have hlen := h.len
  have hpl : (part Z k (ys.length + 1)).length = ys.length + 1 := part_length (by omega)
  have hwl : ws.length = ys.length + 1 := by rw [hf.len, hpl]
  have hx0 := (hx.getD k).1
  have hg : 0 ≤ xs.getD k 0 * gval ys := Int.mul_nonneg hx0 (gval_nonneg hy)
  have hp0 := gval_nonneg (h.norm.part k (ys.length + 1))
  have hws : Norm ws := hf.norm_all (by omega) (by rw [hpl, Nat.add_sub_cancel, part_getD (by omega)]; exact h.zero _ (by omega)) (by omega)
  refine ⟨by rw [put_length (by omega)]; exact hlen, h.norm.put hws k, ?_, fun j hj => ?_⟩
  · rw [gval_put (by omega), hwl, hf.eq, h.eq, gval_take_succ, Int.add_mul, Int.mul_assoc]
    congr 2
    omega
  · rw [put_getD_behind (by omega) (by omega)]
    exact h.zero _ (by omega)

end Go.Proofs.YtahnkmkmoalbhaaGreatDoor.Num

/- integer.addTimes: the walk. -/
namespace Go.Proofs.YtahnkmkmoalbhaaGreatDoor
open Go.RowKit
open Num (Part put Filled)

/-- what addTimes leaves: the places filled, nothing else turned -/
def AddPost (w : World) (b o m : Nat) (Z ys : List Int) (f : Int) (w' : World) : Prop :=
  ∃ ws, Filled (Num.part Z o m) ys f ws ∧ Row w' b (put Z o ws) ∧ w.grownBy w' (some b)

def AddRel (w : World) (b o m : Nat) (Z ys : List Int) (f : Int) (k : Nat) (c : Int) (wr : World) : Prop :=
  ∃ zs, Part (Num.part Z o m) ys f k zs c ∧ Row wr b (put Z o zs) ∧ w.grownBy wr (some b)

theorem floor_neg {n : Int} (h : n < n.tdiv 1000000000 * 1000000000) : n.tdiv 1000000000 - 1 = n / 1000000000 := by
  by_cases h0 : 0 ≤ n
  · rw [Int.tdiv_eq_ediv_of_nonneg h0] at h; omega
  · have : n.tdiv 1000000000 = -((-n) / 1000000000) := by
      rw [← Int.tdiv_eq_ediv_of_nonneg (show 0 ≤ -n by omega), Int.neg_tdiv, Int.neg_neg]
    rw [this] at h ⊢; omega
theorem floor_pos {n : Int} (h : ¬ n < n.tdiv 1000000000 * 1000000000) : n.tdiv 1000000000 = n / 1000000000 := by
  by_cases h0 : 0 ≤ n
  · exact Int.tdiv_eq_ediv_of_nonneg h0
  · have : n.tdiv 1000000000 = -((-n) / 1000000000) := by
      rw [← Int.tdiv_eq_ediv_of_nonneg (show 0 ≤ -n by omega), Int.neg_tdiv, Int.neg_neg]
    rw [this] at h ⊢; omega

theorem tdiv_bounds (n : Int) : (0 ≤ n → 0 ≤ n.tdiv 1000000000 * 1000000000 ∧ n.tdiv 1000000000 * 1000000000 ≤ n) ∧ (n ≤ 0 → n ≤ n.tdiv 1000000000 * 1000000000 ∧ n.tdiv 1000000000 * 1000000000 ≤ 0) := by
  constructor
  · intro h; rw [Int.tdiv_eq_ediv_of_nonneg h]; omega
  · intro h
    have : n.tdiv 1000000000 = -((-n) / 1000000000) := by
      rw [← Int.tdiv_eq_ediv_of_nonneg (show 0 ≤ -n by omega), Int.neg_tdiv, Int.neg_neg]
    rw [this]; omega
theorem tdiv_small {n : Int} (h0 : -2000000000000000000 ≤ n) (h1 : n ≤ 2000000000000000000) :
    -2000000000000000000 ≤ n.tdiv 1000000000 * 1000000000 ∧ n.tdiv 1000000000 * 1000000000 ≤ 2000000000000000000 := by
  have := tdiv_bounds n
  by_cases h : 0 ≤ n
  · have := this.1 h; omega
  · have := this.2 (by omega); omega

theorem AddRel.step {w wr : World} {b o m : Nat} {Z ys : List Int} {f : Int} {k : Nat} {zs : List Int} {c s t n q : Int} (hp : Part (Num.part Z o m) ys f k zs c) (hrow : Row wr b (put Z o zs)) (hg : w.grownBy wr (some b))
    (hk : k < m - 1) (hom : o + m ≤ Z.length) (hs : s = Z.getD (o + k) 0) (ht : t = ys.getD k 0) (s0 : 0 ≤ s) (s1 : s < 1000000000) (hb : -999999998000000001 ≤ f * t ∧ f * t ≤ 999999998000000001)
    (hn : n = s + c + f * t) (hq : q = n / 1000000000) : AddRel w b o m Z ys f (k + 1) q (wr.setCell ⟨b, o + k, none⟩ (.int .i64 (n - q * 1000000000))) := by
  have hz := hp.len
  have h1 := hp.step (s := s) (t := t) (n := n) (by rw [hs, Num.part_getD (by omega)]) ht s0 s1 hb hn
  refine ⟨_, hq ▸ h1, ?_, grown_set hg⟩
  rw [← Num.put_snoc _ (by omega), hz]
  have : n - q * 1000000000 = n % Num.B := by unfold Num.B; omega
  rw [this]
  exact hrow.set _ _

set_option maxHeartbeats 1000000 in
theorem addTimes_any (f : Int) (w : World) (b o m cap ob oy capy ly : Nat) (Z ys : List Int) (hly : ys.length = ly) (hr : Row w b Z) (hy : Sl w ob oy capy ys) (hne : ob ≠ b)
    (hm : ly < m) (hom : o + m ≤ Z.length) (hZ : Z.length ≤ 1099511627776) (hn : ∀ i, i + 1 < m → 0 ≤ Z.getD (o + i) 0 ∧ Z.getD (o + i) 0 < Num.B)
    (hl : -4000000000000000000 ≤ Z.getD (o + (m - 1)) 0 ∧ Z.getD (o + (m - 1)) 0 ≤ 4000000000000000000)
    (hys : Num.Norm ys) (f0 : -999999999 ≤ f) (f1 : f ≤ 999999999) :
    Calls Tryz.prog 99 #[.slice (some ⟨b, o, none⟩) m cap, .slice (some ⟨ob, oy, none⟩) ly capy, .int .i64 f] w
      fun e w' => e = .returned (.tuple #[]) ∧ AddPost w b o m Z ys f w' := by
  have HLY := Lib.hid hly
  have HN := Lib.hid hn
  clear hly hn
  have hly' : ly ≤ 1099511627776 := by have := hy.le; have := hy.max; have := HLY.out; omega
  go_enter Tryz.func99, Tryz.ntmps99
  go_wp2
  go_loopw [7, 14] (fun cr i wr => ∃ (k : Nat) (c : Int), k ≤ m - 1 ∧ i = .int .i64 k ∧ cr = .int .i64 c ∧ AddRel w b o m Z ys f k c wr) (fun _ i _ => m - (intOf i).toNat)
  case atStart => exact ⟨0, 0, Nat.zero_le _, rfl, rfl, [], Part.start _ _ _, by rw [Num.put_nil]; exact hr, grown_refl _ _⟩
  case round =>
    obtain ⟨k, c, hk, rfl, rfl, zs, hpart, hrow, hgr⟩ := hrel
    have c0 := hpart.lo
    have c1 := hpart.hi
    have hzl : zs.length = k := hpart.len
    have hplen : (put Z o zs).length = Z.length := Num.put_length (by omega)
    obtain ⟨s, hs⟩ : ∃ s, s = Z.getD (o + k) 0 := ⟨_, rfl⟩
    have hcell : wr.cell? ⟨b, o + k, none⟩ = some (.int .i64 s) := by
      rw [hrow.cell (by omega), Num.put_getD_behind (by omega) (by omega), hs]
    have hfz : wr.frozen? ⟨b, o + k, none⟩ = false := hrow.frozen _
    have HP := Lib.hid hpart
    have HR := Lib.hid hrow
    have HG := Lib.hid hgr
    have HZ := Lib.hid hzl
    have HPL := Lib.hid hplen
    have HS := Lib.hid hs
    clear hpart hrow hgr hzl hplen hs
    by_cases hlast : k < m - 1
    · have hsb : 0 ≤ s ∧ s < 1000000000 := by have := HN.out k (by omega); rw [← HS.out] at this; unfold Num.B at this; exact this
      by_cases hky : k < ly
      · obtain ⟨t, ht⟩ : ∃ t, t = ys.getD k 0 := ⟨_, rfl⟩
        have hyc : wr.cell? ⟨ob, oy + k, none⟩ = some (.int .i64 t) := by
          rw [ht]; exact (hy.grown HG.out (by simp; exact hne)).cell k (by rw [HLY.out]; exact hky)
        have htb := hys.at (show k < ys.length by rw [HLY.out]; exact hky)
        have hte : ys[k]'(by rw [HLY.out]; exact hky) = t := by rw [ht]; simp [List.getD, show k < ys.length by rw [HLY.out]; exact hky]
        rw [hte] at htb
        have hft := Num.mul_bounds f0 f1 htb.1 htb.2
        have HT := Lib.hid ht
        clear hte ht htb
        have hnb := tdiv_small (n := s + c + f * t) (by omega) (by omega)
        go_wp2
        · have hlt : s + c + f * t < (s + c + f * t).tdiv 1000000000 * 1000000000 := by assumption
          have H := AddRel.step HP.out HR.out HG.out hlast hom HS.out HT.out hsb.1 hsb.2 hft rfl (floor_neg hlt)
          go_roundw
          case rel => exact ⟨k + 1, _, by omega, by go_num, rfl, H⟩
          case measure => simp [intOf]; omega
        · have hlt : ¬ s + c + f * t < (s + c + f * t).tdiv 1000000000 * 1000000000 := by
            have : (s + c + f * t).tdiv 1000000000 * 1000000000 ≤ s + c + f * t := by assumption
            omega
          have H := AddRel.step HP.out HR.out HG.out hlast hom HS.out HT.out hsb.1 hsb.2 hft rfl (floor_pos hlt)
          go_roundw
          case rel => exact ⟨k + 1, _, by omega, by go_num, rfl, H⟩
          case measure => simp [intOf]; omega
      · have hnb := tdiv_small (n := s + c) (by omega) (by omega)
        have ht : 0 = ys.getD k 0 := by have := HLY.out; simp [List.getD, List.getElem?_eq_none (show ys.length ≤ k by omega)]
        have HT := Lib.hid ht
        clear ht
        go_wp2
        · have hlt : s + c < (s + c).tdiv 1000000000 * 1000000000 := by assumption
          have H := AddRel.step HP.out HR.out HG.out hlast hom HS.out HT.out hsb.1 hsb.2 (by omega) (n := s + c) (by omega) (floor_neg hlt)
          go_roundw
          case rel => exact ⟨k + 1, _, by omega, by go_num, rfl, H⟩
          case measure => simp [intOf]; omega
        · have hlt : ¬ s + c < (s + c).tdiv 1000000000 * 1000000000 := by
            have : (s + c).tdiv 1000000000 * 1000000000 ≤ s + c := by assumption
            omega
          have H := AddRel.step HP.out HR.out HG.out hlast hom HS.out HT.out hsb.1 hsb.2 (by omega) (n := s + c) (by omega) (floor_pos hlt)
          go_roundw
          case rel => exact ⟨k + 1, _, by omega, by go_num, rfl, H⟩
          case measure => simp [intOf]; omega
    · obtain rfl : k = m - 1 := by omega
      have hfin : AddPost w b o m Z ys f (wr.setCell ⟨b, o + (m - 1), none⟩ (.int .i64 (s + c))) := by
        have hz := HP.out.len
        have hf := HP.out.filled (by rw [Num.part_length hom]; omega) (by have := HLY.out; omega)
        rw [Num.part_getD (by omega), ← HS.out] at hf
        refine ⟨_, hf, ?_, grown_set HG.out⟩
        rw [← Num.put_snoc _ (by omega), hz]
        exact HR.out.set _ _
      have HF := Lib.hid hfin
      clear hfin
      have hlb := hl
      rw [← HS.out] at hlb
      clear hl
      go_wp2
      go_end0
      exact ⟨rfl, HF.out⟩
end Go.Proofs.YtahnkmkmoalbhaaGreatDoor
