/- integer.Compare and Parse: walks. -/
import Derived.Test.YtldohkfomdcpoaaGreatDoorInt
namespace Go.Proofs.YtldohkfomdcpoaaGreatDoor
open Go.RowKit

/-- -1, 0 or 1, as the first number is less than, equal to, or greater than the second -/
def cmp3 (a b : Int) : Int := if a < b then -1 else if b < a then 1 else 0
def or2 (p q : Int) : Int := if p = 0 then q else p

set_option maxHeartbeats 400000 in
theorem cmpOr_any (p q : Int) (b : Nat) (w : World) (h0 : w.cell? ⟨b, 0, none⟩ = some (.int .i64 p)) (h1 : w.cell? ⟨b, 1, none⟩ = some (.int .i64 q)) :
    Calls Tryz.prog 98 #[.slice (some ⟨b, 0, none⟩) 2 2] w fun e w' => e = .returned (.int .i64 (or2 p q)) ∧ w = w' := by
  go_enter Tryz.func98, Tryz.ntmps98
  go_wp2
  go_loop [8] (fun i => (i = .int .i64 0) ∨ (i = .int .i64 1 ∧ p = 0) ∨ (i = .int .i64 2 ∧ p = 0 ∧ q = 0)) (fun i => 2 - (intOf i).toNat)
  case atStart => exact .inl rfl
  case round =>
    rcases hrel with rfl | ⟨rfl, hp⟩ | ⟨rfl, hp, hq⟩
    · by_cases hp : p = 0
      · have H := Lib.hid hp
        have hb : (p == 0) = true := by simpa using hp
        clear hp
        go_wp2
        go_round
        case rel => exact .inr (.inl ⟨rfl, H.out⟩)
        case measure => simp [intOf]
      · have H := Lib.hid hp
        have hb : (p == 0) = false := by simpa using hp
        clear hp
        go_wp2
        go_ret
        exact ⟨by unfold or2; rw [if_neg H.out]; rfl, rfl⟩
    · have HP := Lib.hid hp
      clear hp
      by_cases hq : q = 0
      · have H := Lib.hid hq
        have hb : (q == 0) = true := by simpa using hq
        clear hq
        go_wp2
        go_round
        case rel => exact .inr (.inr ⟨rfl, HP.out, H.out⟩)
        case measure => simp [intOf]
      · have H := Lib.hid hq
        have hb : (q == 0) = false := by simpa using hq
        clear hq
        go_wp2
        go_ret
        exact ⟨by unfold or2; rw [if_pos HP.out]; rfl, rfl⟩
    · have HP := Lib.hid hp
      have HQ := Lib.hid hq
      clear hp hq
      go_wp2
      go_ret
      exact ⟨by unfold or2; rw [if_pos HP.out, HQ.out]; rfl, rfl⟩

set_option maxHeartbeats 400000 in
theorem compareDigits_any (x y : List UInt8) (w : World) :
    Calls Tryz.prog 74 #[.string ⟨x.toArray⟩, .string ⟨y.toArray⟩] w fun e w' => e = .returned (.int .i64 (or2 (Lib.compareInt x.length y.length) (Lib.compareBytes x y))) ∧ Below w.heap.size w w' := by
  go_enter Tryz.func74, Tryz.ntmps74
  go_wp2_with (first | (go_at_call 99; refine (Tryz.cmp_Compare_int _ _ _).mono ?_; rintro e w' ⟨rfl, rfl⟩) | (go_at_call 100; refine (Tryz.strings_Compare _ _ _).mono ?_; rintro e w' ⟨rfl, rfl⟩))
  refine (cmpOr_any (Lib.compareInt x.length y.length) (Lib.compareBytes x y) _ _ (by simp) (by simp)).mono ?_
  rintro e w1 ⟨rfl, rfl⟩
  go_wp2
  go_ret
  exact ⟨rfl, (Below.refl _ _).alloc (Nat.le_refl _) _⟩

theorem cmp3_lt {a b : Int} (h : a < b) : cmp3 a b = -1 := by unfold cmp3; rw [if_pos h]
theorem cmp3_gt {a b : Int} (h : b < a) : cmp3 a b = 1 := by unfold cmp3; rw [if_neg (by omega), if_pos h]
theorem cmp3_eq {a b : Int} (h : a = b) : cmp3 a b = 0 := by unfold cmp3; rw [if_neg (by omega), if_neg (by omega)]
theorem cmp3_neg (a b : Int) : cmp3 (-a) (-b) = cmp3 b a := by
  unfold cmp3
  by_cases h : a < b
  · rw [if_neg (by omega), if_pos (by omega), if_neg (by omega), if_pos h]
  · by_cases h2 : b < a
    · rw [if_pos (by omega), if_pos h2]
    · rw [if_neg (by omega), if_neg (by omega), if_neg (by omega), if_neg (by omega)]
theorem cmp3_swap (a b : Int) : cmp3 b a = - cmp3 a b := by
  unfold cmp3
  by_cases h : a < b
  · rw [if_neg (by omega), if_pos (by omega), if_pos h]; rfl
  · by_cases h2 : b < a
    · rw [if_pos (by omega), if_neg (by omega), if_pos h2]
    · rw [if_neg (by omega), if_neg (by omega), if_neg (by omega), if_neg (by omega)]; rfl

theorem compareBytes_num : ∀ (x y : List UInt8), x.all Num.isDig = true → y.all Num.isDig = true → x.length = y.length → Lib.compareBytes x y = cmp3 (Num.num x) (Num.num y)
  | [], [], _, _, _ => by simp [Lib.compareBytes, cmp3]
  | [], _ :: _, _, _, h => by simp at h
  | _ :: _, [], _, _, h => by simp at h
  | a :: xs, b :: ys, hx, hy, hl => by
    simp only [List.all_cons, Bool.and_eq_true] at hx hy
    have h1 := (Num.isDig_iff a).1 hx.1
    have h2 := (Num.isDig_iff b).1 hy.1
    have l1 := Num.num_lt xs hx.2
    have l2 := Num.num_lt ys hy.2
    have hl' : xs.length = ys.length := by simpa using hl
    have ih := compareBytes_num xs ys hx.2 hy.2 hl'
    rw [Lib.compareBytes, Num.num_cons, Num.num_cons]
    rw [hl'] at l1 ⊢
    unfold Num.dv
    generalize 10 ^ ys.length = p at *
    by_cases hab : a < b
    · rw [if_pos hab, cmp3_lt]
      have hab' : a.toNat < b.toNat := UInt8.lt_iff_toNat_lt.1 hab
      have := Nat.mul_le_mul_right p (show a.toNat - 48 + 1 ≤ b.toNat - 48 by omega)
      rw [Nat.add_mul] at this
      generalize (a.toNat - 48) * p = u at *
      generalize (b.toNat - 48) * p = v at *
      omega
    · rw [if_neg hab]
      by_cases hba : b < a
      · rw [if_pos hba, cmp3_gt]
        have hab' : b.toNat < a.toNat := UInt8.lt_iff_toNat_lt.1 hba
        have := Nat.mul_le_mul_right p (show b.toNat - 48 + 1 ≤ a.toNat - 48 by omega)
        rw [Nat.add_mul] at this
        generalize (a.toNat - 48) * p = u at *
        generalize (b.toNat - 48) * p = v at *
        omega
      · rw [if_neg hba, ih]
        have e : a.toNat = b.toNat := by
          have n1 : ¬ a.toNat < b.toNat := fun h => hab (UInt8.lt_iff_toNat_lt.2 h)
          have n2 : ¬ b.toNat < a.toNat := fun h => hba (UInt8.lt_iff_toNat_lt.2 h)
          omega
        rw [e]
        unfold cmp3
        generalize (b.toNat - 48) * p = q
        by_cases c1 : (Num.num xs : Int) < Num.num ys
        · rw [if_pos c1, if_pos (by omega)]
        · by_cases c2 : (Num.num ys : Int) < Num.num xs
          · rw [if_neg c1, if_pos c2, if_neg (by omega), if_pos (by omega)]
          · rw [if_neg c1, if_neg c2, if_neg (by omega), if_neg (by omega)]

theorem num_lt_of_length {x y : List UInt8} (hx : Num.Plain x) (hy : Num.Plain y) (h : x.length < y.length) : Num.num x < Num.num y := by
  have h1 := Num.num_lt x hx.1
  cases y with
  | nil => simp at h
  | cons c y =>
    have hc := hy.1
    simp only [List.all_cons, Bool.and_eq_true] at hc
    have h2 := Num.num_ge c y hc.1 (by have := hy.2; simpa using this)
    have := Nat.pow_le_pow_right (show 1 ≤ 10 by decide) (show x.length ≤ y.length by simp at h; omega)
    omega

theorem or2_cmp3 {x y : List UInt8} (hx : Num.Plain x) (hy : Num.Plain y) : or2 (Lib.compareInt x.length y.length) (Lib.compareBytes x y) = cmp3 (Num.num x) (Num.num y) := by
  by_cases h1 : x.length < y.length
  · have := num_lt_of_length hx hy h1
    rw [cmp3_lt (by omega)]
    unfold or2 Lib.compareInt
    rw [if_pos (show (x.length : Int) < y.length by omega)]; rfl
  · by_cases h2 : y.length < x.length
    · have := num_lt_of_length hy hx h2
      rw [cmp3_gt (by omega)]
      unfold or2 Lib.compareInt
      rw [if_neg (show ¬ (x.length : Int) < y.length by omega), if_pos (show (x.length : Int) > y.length by omega)]; rfl
    · rw [← compareBytes_num x y hx.1 hy.1 (by omega)]
      unfold or2 Lib.compareInt
      rw [if_neg (show ¬ (x.length : Int) < y.length by omega), if_neg (show ¬ (x.length : Int) > y.length by omega)]; rfl

/-- the order of digits without leading zeros is that of the numbers -/
theorem compareDigits_num {x y : List UInt8} (hx : Num.Plain x) (hy : Num.Plain y) (w : World) :
    Calls Tryz.prog 74 #[.string ⟨x.toArray⟩, .string ⟨y.toArray⟩] w fun e w' => e = .returned (.int .i64 (cmp3 (Num.num x) (Num.num y))) ∧ Below w.heap.size w w' := by
  rw [← or2_cmp3 hx hy]
  exact compareDigits_any x y w

theorem vS_neg {s : ByteArray} (h : Num.sneg s.data.toList = true) : vS s = -(Num.num (Num.sdig s.data.toList) : Int) ∧ vS s < 0 := by
  have h2 := (Num.val_neg_iff s.data.toList).2 h
  refine ⟨?_, h2⟩
  unfold vS Num.val; rw [if_pos h]; rfl
theorem vS_pos {s : ByteArray} (h : Num.sneg s.data.toList = false) : vS s = (Num.num (Num.sdig s.data.toList) : Int) ∧ 0 ≤ vS s := by
  have e : vS s = (Num.num (Num.sdig s.data.toList) : Int) := by unfold vS Num.val; rw [if_neg (by rw [h]; simp)]; rfl
  exact ⟨e, by omega⟩

set_option maxHeartbeats 400000 in
theorem compare_any (a b : ByteArray) (w : World) (ha : a.size ≤ 4294967296) (hb : b.size ≤ 4294967296) :
    Calls Tryz.prog 48 #[.string a, .string b] w fun e w' => e = .returned (.int .i64 (cmp3 (vS a) (vS b))) ∧ Below w.heap.size w w' := by
  have hma := lim_max ha
  have hmb := lim_max hb
  have pa := Num.Plain.sdig a.data.toList
  have pb := Num.Plain.sdig b.data.toList
  have PA := Lib.hid pa
  have PB := Lib.hid pb
  clear pa pb
  cases na : Num.sneg a.data.toList <;> cases nb : Num.sneg b.data.toList
  · have HA := Lib.hid (vS_pos na); have HB := Lib.hid (vS_pos nb)
    go_enter Tryz.func48, Tryz.ntmps48
    go_wp2_with fail
    refine (split_any a _ hma).mono ?_; rintro e w' ⟨rfl, rfl⟩
    rw [na]
    go_wp2_with fail
    refine (split_any b _ hmb).mono ?_; rintro e w' ⟨rfl, rfl⟩
    rw [nb]
    go_wp2_with fail
    refine (compareDigits_num PA.out PB.out _).mono ?_; rintro e w' ⟨rfl, hbl⟩
    go_wp2
    go_ret
    exact ⟨by rw [HA.out.1, HB.out.1]; rfl, hbl⟩
  · have HA := Lib.hid (vS_pos na); have HB := Lib.hid (vS_neg nb)
    go_enter Tryz.func48, Tryz.ntmps48
    go_wp2_with fail
    refine (split_any a _ hma).mono ?_; rintro e w' ⟨rfl, rfl⟩
    rw [na]
    go_wp2_with fail
    refine (split_any b _ hmb).mono ?_; rintro e w' ⟨rfl, rfl⟩
    rw [nb]
    go_wp2_with fail
    go_ret
    exact ⟨by rw [cmp3_gt (by have := HA.out; have := HB.out; omega)]; rfl, Below.refl _ _⟩
  · have HA := Lib.hid (vS_neg na); have HB := Lib.hid (vS_pos nb)
    go_enter Tryz.func48, Tryz.ntmps48
    go_wp2_with fail
    refine (split_any a _ hma).mono ?_; rintro e w' ⟨rfl, rfl⟩
    rw [na]
    go_wp2_with fail
    refine (split_any b _ hmb).mono ?_; rintro e w' ⟨rfl, rfl⟩
    rw [nb]
    go_wp2_with fail
    go_ret
    exact ⟨by rw [cmp3_lt (by have := HA.out; have := HB.out; omega)]; rfl, Below.refl _ _⟩
  · have HA := Lib.hid (vS_neg na); have HB := Lib.hid (vS_neg nb)
    go_enter Tryz.func48, Tryz.ntmps48
    go_wp2_with fail
    refine (split_any a _ hma).mono ?_; rintro e w' ⟨rfl, rfl⟩
    rw [na]
    go_wp2_with fail
    refine (split_any b _ hmb).mono ?_; rintro e w' ⟨rfl, rfl⟩
    rw [nb]
    go_wp2_with fail
    refine (compareDigits_num PB.out PA.out _).mono ?_; rintro e w' ⟨rfl, hbl⟩
    go_wp2
    go_ret
    exact ⟨by rw [HA.out.1, HB.out.1, cmp3_neg]; rfl, hbl⟩

/-! ### Parse -/

theorem canon_val_length (l : List UInt8) : (Num.canon (Num.val l)).length ≤ l.length := by
  rw [← Num.joined_val]
  unfold Num.joined
  split
  · rename_i h
    simp only [Bool.and_eq_true] at h
    have h1 := h.1
    unfold Num.sneg at h1
    simp only [Bool.and_eq_true] at h1
    have hc := h1.1
    unfold Num.sdig Num.strip
    unfold Num.cut at hc ⊢
    split at hc
    · rename_i hh
      rw [if_pos hh]
      simp only
      split
      · have h2 := (List.dropWhile_sublist (l := l.tail) (· == 48)).length_le
        have h3 := List.length_tail (l := l)
        have : l ≠ [] := by rintro rfl; simp at hh
        have := List.length_pos_iff.2 this
        simp only [List.length_cons]; omega
      · have : l ≠ [] := by rintro rfl; simp at hh
        have := List.length_pos_iff.2 this
        simp; omega
    · simp at hc
  · exact Num.sdig_length l
theorem cS_vS_size (s : ByteArray) : (cS (vS s)).size ≤ s.size := by
  have := canon_val_length s.data.toList
  rw [size_toList] at this
  rw [← size_toList]; exact this

/-- is it the text of an integer? -/
def isText (s : ByteArray) : Bool := decide (pS (vS s) = s)

end Go.Proofs.YtldohkfomdcpoaaGreatDoor
