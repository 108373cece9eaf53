/- The reference implementation of layer 1: Small, Compare, Of: walks. -/
import Derived.Test.YtaopneanfflbcaaDoorRefC
namespace Go.Proofs.YtaopneanfflbcaaDoor
open Go.RowKit

theorem bytesLess_num : ∀ (x y : List UInt8), x.all Num.isDig = true → y.all Num.isDig = true → x.length = y.length → Op.bytesLess x y = decide (Num.num x < Num.num y)
  | [], [], _, _, _ => by simp [Op.bytesLess]
  | [], _ :: _, _, _, h => by simp at h
  | _ :: _, [], _, _, h => by simp at h
  | a :: x, b :: y, hx, hy, h => by
    simp only [List.all_cons, Bool.and_eq_true] at hx hy
    have ha := (Num.isDig_iff a).1 hx.1
    have hb := (Num.isDig_iff b).1 hy.1
    have hl : x.length = y.length := by simpa using h
    have ih := bytesLess_num x y hx.2 hy.2 hl
    have h1 := Num.num_lt x hx.2
    have h2 := Num.num_lt y hy.2
    rw [Num.num_cons, Num.num_cons]
    unfold Op.bytesLess
    rw [ih, Bool.eq_iff_iff]
    simp only [Bool.or_eq_true, Bool.and_eq_true, decide_eq_true_iff, beq_iff_eq]
    rw [hl] at h1 ⊢
    rw [UInt8.lt_iff_toNat_lt]
    generalize 10 ^ y.length = p at *
    unfold Num.dv
    by_cases c1 : a.toNat < b.toNat
    · have := Nat.mul_le_mul_right p (show a.toNat - 48 + 1 ≤ b.toNat - 48 by omega)
      rw [Nat.add_mul] at this
      exact ⟨fun _ => by omega, fun _ => .inl c1⟩
    · by_cases c2 : a = b
      · subst c2; simp
      · have c3 : b.toNat < a.toNat := by
          have : a.toNat ≠ b.toNat := fun e => c2 (UInt8.toNat_inj.1 e)
          omega
        have := Nat.mul_le_mul_right p (show b.toNat - 48 + 1 ≤ a.toNat - 48 by omega)
        rw [Nat.add_mul] at this
        exact ⟨fun h => by rcases h with h | h; omega; exact absurd h.1 c2, fun h => by omega⟩

theorem num_eq_iff : ∀ (x y : List UInt8), x.all Num.isDig = true → y.all Num.isDig = true → x.length = y.length → Num.num x = Num.num y → x = y
  | [], [], _, _, _, _ => rfl
  | [], _ :: _, _, _, h, _ => by simp at h
  | _ :: _, [], _, _, h, _ => by simp at h
  | a :: x, b :: y, hx, hy, h, e => by
    simp only [List.all_cons, Bool.and_eq_true] at hx hy
    have ha := (Num.isDig_iff a).1 hx.1
    have hb := (Num.isDig_iff b).1 hy.1
    have hl : x.length = y.length := by simpa using h
    have h1 := Num.num_lt x hx.2
    have h2 := Num.num_lt y hy.2
    rw [Num.num_cons, Num.num_cons] at e
    have ih := num_eq_iff x y hx.2 hy.2 hl
    rw [hl] at h1 e
    generalize 10 ^ y.length = p at *
    have e1 : a = b := by
      apply UInt8.toNat_inj.1
      unfold Num.dv at e
      by_cases c1 : a.toNat < b.toNat
      · have := Nat.mul_le_mul_right p (show a.toNat - 48 + 1 ≤ b.toNat - 48 by omega)
        rw [Nat.add_mul] at this; omega
      · by_cases c2 : b.toNat < a.toNat
        · have := Nat.mul_le_mul_right p (show b.toNat - 48 + 1 ≤ a.toNat - 48 by omega)
          rw [Nat.add_mul] at this; omega
        · omega
    subst e1
    rw [ih (by omega)]

theorem beq_num {x y : List UInt8} (hx : x.all Num.isDig = true) (hy : y.all Num.isDig = true) (h : x.length = y.length) : (x == y) = decide (Num.num x = Num.num y) := by
  rw [Bool.eq_iff_iff, beq_iff_eq, decide_eq_true_iff]
  exact ⟨fun e => by rw [e], num_eq_iff x y hx hy h⟩

/-- the greatest text of an absolute value that fits -/
def most (ng : Bool) : ByteArray := if ng then ⟨#[57, 50, 50, 51, 51, 55, 50, 48, 51, 54, 56, 53, 52, 55, 55, 53, 56, 48, 56]⟩ else ⟨#[57, 50, 50, 51, 51, 55, 50, 48, 51, 54, 56, 53, 52, 55, 55, 53, 56, 48, 55]⟩
def mostN (ng : Bool) : Nat := if ng then 9223372036854775808 else 9223372036854775807
theorem most_num (ng : Bool) : Num.num (most ng).data.toList = mostN ng := by cases ng <;> decide +kernel
theorem most_all (ng : Bool) : (most ng).data.toList.all Num.isDig = true := by cases ng <;> decide +kernel
theorem most_len (ng : Bool) : (most ng).data.toList.length = 19 := by cases ng <;> rfl

theorem fits_iff {s : ByteArray} {ng : Bool} (h : Num.sneg s.data.toList = ng) : fits (vS s) = decide (Num.num (Num.sdig s.data.toList) ≤ mostN ng) := by
  unfold fits
  rw [Bool.eq_iff_iff, decide_eq_true_iff, decide_eq_true_iff]
  cases ng
  · have := vS_pos h; unfold mostN; simp; omega
  · have := vS_neg h; unfold mostN; simp; omega

/-- more than 19 digits are more than fits -/
theorem plain_ge {d : List UInt8} (hp : Num.Plain d) {k : Nat} (h : k < d.length) : 10 ^ k ≤ Num.num d := by
  cases d with
  | nil => simp at h
  | cons c r =>
    have hc := hp.1
    simp only [List.all_cons, Bool.and_eq_true] at hc
    have h2 := Num.num_ge c r hc.1 (by have := hp.2; simpa using this)
    have := Nat.pow_le_pow_right (show 1 ≤ 10 by decide) (show k ≤ r.length by simp at h; omega)
    omega

/-- what Small returns -/
def SmallPost (w : World) (z : Int) (e : Ending) (w' : World) : Prop := e = .returned (if fits z then .tuple #[.int .i64 z, .bool true] else .tuple #[.int .i64 0, .bool false]) ∧ w = w'
theorem small_some {w : World} {z : Int} (h : fits z = true) : SmallPost w z (.returned (.tuple #[.int .i64 z, .bool true])) w := by unfold SmallPost; rw [h]; exact ⟨rfl, rfl⟩
theorem small_none {w : World} {z : Int} (h : fits z = false) : SmallPost w z (.returned (.tuple #[.int .i64 0, .bool false])) w := by unfold SmallPost; rw [h]; exact ⟨rfl, rfl⟩

set_option maxRecDepth 100000 in
set_option maxHeartbeats 1000000 in
theorem rSmall_false (s : ByteArray) (w : World) (hs : s.size ≤ 4294967296) (hng : Num.sneg s.data.toList = false) :
    Calls Tryd.prog 16 #[.string s] w (SmallPost w (vS s)) := by
  have hm := lim_max hs
  have hfit := fits_iff hng
  have hp := Num.Plain.sdig s.data.toList
  obtain ⟨D, hD, hDl, hall, hDs⟩ := dig_str s
  rw [← hDl] at hfit hp
  have HV := Lib.hid (show vS s = (Num.num D.data.toList : Int) by rw [hDl]; exact (vS_pos hng).1)
  have HD := Lib.hid hD
  have HA := Lib.hid hall
  have HF := Lib.hid hfit
  have HNG := Lib.hid hng
  clear hD hall hDl hfit hng
  by_cases h19 : 19 < D.size
  · have hbig : fits (vS s) = false := by
      rw [HF.out, decide_eq_false_iff_not]
      have := plain_ge hp (show 19 < D.data.toList.length by rw [size_toList]; exact h19)
      unfold mostN; simp; omega
    have H := Lib.hid (small_none (w := w) hbig)
    clear hbig hp
    go_enter Tryd.func16, Tryd.ntmps16
    go_wp2_with fail
    refine (digits_any s w hm).mono ?_
    rintro e w' ⟨rfl, rfl⟩
    rw [← HD.out, HNG.out]
    go_wp2_with fail
    go_ret2
    exact H.out
  · by_cases hfits : Num.num D.data.toList ≤ mostN false
    · have hyes : fits (vS s) = true := by rw [HF.out]; exact decide_eq_true hfits
      have H := Lib.hid (small_some (w := w) hyes)
      clear hyes hp
      have h9 : (D.size : Int) < 19 ∨ (((D.size : Int) == 19) = true ∧ D.size = 19) := by
        by_cases h : D.size = 19
        · exact .inr ⟨by rw [h]; rfl, h⟩
        · exact .inl (by omega)
      have hcases : (((D.size : Int) == 19) = false) ∨ ((((D.size : Int) == 19) = true) ∧ Op.bytesLess D.toList [57, 50, 50, 51, 51, 55, 50, 48, 51, 54, 56, 53, 52, 55, 55, 53, 56, 48, 55] = true) ∨ ((((D.size : Int) == 19) = true) ∧ Op.bytesLess D.toList [57, 50, 50, 51, 51, 55, 50, 48, 51, 54, 56, 53, 52, 55, 55, 53, 56, 48, 55] = false ∧ (D.toList == [57, 50, 50, 51, 51, 55, 50, 48, 51, 54, 56, 53, 52, 55, 55, 53, 56, 48, 55]) = true) := by
        rcases h9 with h | ⟨h, h'⟩
        · left; rw [beq_eq_false_iff_ne]; omega
        · right
          have e1 := bytesLess_num _ _ HA.out (most_all false) (by rw [most_len, size_toList, h'])
          have e2 := beq_num HA.out (most_all false) (by rw [most_len, size_toList, h'])
          rw [most_num] at e1 e2
          rw [Lib.toList_data]
          by_cases hq : Num.num D.data.toList < mostN false
          · exact .inl ⟨h, by rw [decide_eq_true hq] at e1; exact e1⟩
          · exact .inr ⟨h, by rw [decide_eq_false hq] at e1; exact e1, by rw [decide_eq_true (by omega)] at e2; exact e2⟩
      clear h9
      have HFT := Lib.hid hfits
      clear hfits
      rcases hcases with hc | ⟨hc, hc2⟩ | ⟨hc, hc2, hc3⟩
      · go_enter Tryd.func16, Tryd.ntmps16
        go_wp2_with fail
        refine (digits_any s w hm).mono ?_
        rintro e w' ⟨rfl, rfl⟩
        rw [← HD.out, HNG.out]
        go_wp2_with fail
        clear hc
        go_loop [7, 8] (fun nv iv => ∃ k : Nat, k ≤ D.size ∧ iv = .int .i64 k ∧ nv = .int .i64 (-((Num.num (D.data.toList.take k) : Nat) : Int))) (fun _ iv => D.size - (intOf iv).toNat)
        case atStart => exact ⟨0, Nat.zero_le _, rfl, rfl⟩
        case round =>
          obtain ⟨k, hk, rfl, rfl⟩ := hrel
          have hmx : mostN false ≤ 9223372036854775808 := by unfold mostN; simp
          have hb := num_take_le D.data.toList k
          obtain ⟨x, hx⟩ : ∃ x, x = Num.num (D.data.toList.take k) := ⟨_, rfl⟩
          rw [← hx] at hb ⊢
          by_cases hlt : k < D.size
          · have hd := dig_at hlt HA.out
            have hsu := num_take_succ hlt
            have hb3 := num_take_le D.data.toList (k + 1)
            rw [← hx] at hsu
            have hb4 : 10 * x + (((D[k]'hlt).toNat) - 48) ≤ 9223372036854775808 := by have := HFT.out; rw [hsu] at hb3; unfold Num.dv at hb3; omega
            have hn : -((Num.num (D.data.toList.take (k + 1)) : Nat) : Int) = 10 * (-(x : Int)) - (((D[k]'hlt).toNat : Int) - 48) := by rw [hsu]; unfold Num.dv; omega
            have HN := Lib.hid hn
            have hd1 : (48 : Int) ≤ ((D[k]'hlt).toNat : Int) := by omega
            have hd2 : ((D[k]'hlt).toNat : Int) ≤ 57 := by omega
            have hb5 : (x : Int) ≤ 922337203685477580 := by omega
            have hb6 : -9223372036854775808 ≤ 10 * (-(x : Int)) - (((D[k]'hlt).toNat : Int) - 48) := by omega
            clear hn hsu hx hd hb hb3 hb4 hmx
            go_wp2_with fail
            go_round
            case rel => exact ⟨k + 1, by omega, by go_num, by rw [HN.out]⟩
            case measure => simp [intOf]; omega
          · have hx2 : x = Num.num D.data.toList := by rw [hx, List.take_of_length_le (by rw [size_toList]; omega)]
            have hxm : x ≤ 9223372036854775807 := by have := HFT.out; unfold mostN at this; simp at this; omega
            have HX := Lib.hid (show vS s = (x : Int) by rw [HV.out, hx2])
            clear hx hx2 hb hmx
            go_wp2_with fail
            go_ret2
            have := H.out
            rw [HX.out] at this ⊢
            exact this
      · go_enter Tryd.func16, Tryd.ntmps16
        go_wp2_with fail
        refine (digits_any s w hm).mono ?_
        rintro e w' ⟨rfl, rfl⟩
        rw [← HD.out, HNG.out]
        go_wp2_with fail
        clear hc hc2
        go_loop [7, 8] (fun nv iv => ∃ k : Nat, k ≤ D.size ∧ iv = .int .i64 k ∧ nv = .int .i64 (-((Num.num (D.data.toList.take k) : Nat) : Int))) (fun _ iv => D.size - (intOf iv).toNat)
        case atStart => exact ⟨0, Nat.zero_le _, rfl, rfl⟩
        case round =>
          obtain ⟨k, hk, rfl, rfl⟩ := hrel
          have hmx : mostN false ≤ 9223372036854775808 := by unfold mostN; simp
          have hb := num_take_le D.data.toList k
          obtain ⟨x, hx⟩ : ∃ x, x = Num.num (D.data.toList.take k) := ⟨_, rfl⟩
          rw [← hx] at hb ⊢
          by_cases hlt : k < D.size
          · have hd := dig_at hlt HA.out
            have hsu := num_take_succ hlt
            have hb3 := num_take_le D.data.toList (k + 1)
            rw [← hx] at hsu
            have hb4 : 10 * x + (((D[k]'hlt).toNat) - 48) ≤ 9223372036854775808 := by have := HFT.out; rw [hsu] at hb3; unfold Num.dv at hb3; omega
            have hn : -((Num.num (D.data.toList.take (k + 1)) : Nat) : Int) = 10 * (-(x : Int)) - (((D[k]'hlt).toNat : Int) - 48) := by rw [hsu]; unfold Num.dv; omega
            have HN := Lib.hid hn
            have hd1 : (48 : Int) ≤ ((D[k]'hlt).toNat : Int) := by omega
            have hd2 : ((D[k]'hlt).toNat : Int) ≤ 57 := by omega
            have hb5 : (x : Int) ≤ 922337203685477580 := by omega
            have hb6 : -9223372036854775808 ≤ 10 * (-(x : Int)) - (((D[k]'hlt).toNat : Int) - 48) := by omega
            clear hn hsu hx hd hb hb3 hb4 hmx
            go_wp2_with fail
            go_round
            case rel => exact ⟨k + 1, by omega, by go_num, by rw [HN.out]⟩
            case measure => simp [intOf]; omega
          · have hx2 : x = Num.num D.data.toList := by rw [hx, List.take_of_length_le (by rw [size_toList]; omega)]
            have hxm : x ≤ 9223372036854775807 := by have := HFT.out; unfold mostN at this; simp at this; omega
            have HX := Lib.hid (show vS s = (x : Int) by rw [HV.out, hx2])
            clear hx hx2 hb hmx
            go_wp2_with fail
            go_ret2
            have := H.out
            rw [HX.out] at this ⊢
            exact this
      · go_enter Tryd.func16, Tryd.ntmps16
        go_wp2_with fail
        refine (digits_any s w hm).mono ?_
        rintro e w' ⟨rfl, rfl⟩
        rw [← HD.out, HNG.out]
        go_wp2_with fail
        clear hc hc2 hc3
        go_loop [7, 8] (fun nv iv => ∃ k : Nat, k ≤ D.size ∧ iv = .int .i64 k ∧ nv = .int .i64 (-((Num.num (D.data.toList.take k) : Nat) : Int))) (fun _ iv => D.size - (intOf iv).toNat)
        case atStart => exact ⟨0, Nat.zero_le _, rfl, rfl⟩
        case round =>
          obtain ⟨k, hk, rfl, rfl⟩ := hrel
          have hmx : mostN false ≤ 9223372036854775808 := by unfold mostN; simp
          have hb := num_take_le D.data.toList k
          obtain ⟨x, hx⟩ : ∃ x, x = Num.num (D.data.toList.take k) := ⟨_, rfl⟩
          rw [← hx] at hb ⊢
          by_cases hlt : k < D.size
          · have hd := dig_at hlt HA.out
            have hsu := num_take_succ hlt
            have hb3 := num_take_le D.data.toList (k + 1)
            rw [← hx] at hsu
            have hb4 : 10 * x + (((D[k]'hlt).toNat) - 48) ≤ 9223372036854775808 := by have := HFT.out; rw [hsu] at hb3; unfold Num.dv at hb3; omega
            have hn : -((Num.num (D.data.toList.take (k + 1)) : Nat) : Int) = 10 * (-(x : Int)) - (((D[k]'hlt).toNat : Int) - 48) := by rw [hsu]; unfold Num.dv; omega
            have HN := Lib.hid hn
            have hd1 : (48 : Int) ≤ ((D[k]'hlt).toNat : Int) := by omega
            have hd2 : ((D[k]'hlt).toNat : Int) ≤ 57 := by omega
            have hb5 : (x : Int) ≤ 922337203685477580 := by omega
            have hb6 : -9223372036854775808 ≤ 10 * (-(x : Int)) - (((D[k]'hlt).toNat : Int) - 48) := by omega
            clear hn hsu hx hd hb hb3 hb4 hmx
            go_wp2_with fail
            go_round
            case rel => exact ⟨k + 1, by omega, by go_num, by rw [HN.out]⟩
            case measure => simp [intOf]; omega
          · have hx2 : x = Num.num D.data.toList := by rw [hx, List.take_of_length_le (by rw [size_toList]; omega)]
            have hxm : x ≤ 9223372036854775807 := by have := HFT.out; unfold mostN at this; simp at this; omega
            have HX := Lib.hid (show vS s = (x : Int) by rw [HV.out, hx2])
            clear hx hx2 hb hmx
            go_wp2_with fail
            go_ret2
            have := H.out
            rw [HX.out] at this ⊢
            exact this
    · have hno : fits (vS s) = false := by rw [HF.out]; exact decide_eq_false hfits
      have H := Lib.hid (small_none (w := w) hno)
      have h19' : D.size = 19 := by
        have h1 := Num.num_lt _ HA.out
        rw [size_toList] at h1
        by_cases h : D.size = 19
        · exact h
        · have h2 := Nat.pow_le_pow_right (show 1 ≤ 10 by decide) (show D.size ≤ 18 by omega)
          unfold mostN at hfits
          simp at hfits
          omega
      have hc : ((D.size : Int) == 19) = true := by rw [h19']; rfl
      have e1 := bytesLess_num _ _ HA.out (most_all false) (by rw [most_len, size_toList, h19'])
      have e2 := beq_num HA.out (most_all false) (by rw [most_len, size_toList, h19'])
      rw [most_num] at e1 e2
      have hc2 : Op.bytesLess D.toList [57, 50, 50, 51, 51, 55, 50, 48, 51, 54, 56, 53, 52, 55, 55, 53, 56, 48, 55] = false := by rw [Lib.toList_data]; rw [decide_eq_false (by omega)] at e1; exact e1
      have hc3 : (D.toList == [57, 50, 50, 51, 51, 55, 50, 48, 51, 54, 56, 53, 52, 55, 55, 53, 56, 48, 55]) = false := by rw [Lib.toList_data]; rw [decide_eq_false (by omega)] at e2; exact e2
      clear e1 e2
      clear hno hp h19' hfits
      go_enter Tryd.func16, Tryd.ntmps16
      go_wp2_with fail
      refine (digits_any s w hm).mono ?_
      rintro e w' ⟨rfl, rfl⟩
      rw [← HD.out, HNG.out]
      go_wp2_with fail
      go_ret2
      exact H.out

set_option maxRecDepth 100000 in
set_option maxHeartbeats 1000000 in
theorem rSmall_true (s : ByteArray) (w : World) (hs : s.size ≤ 4294967296) (hng : Num.sneg s.data.toList = true) :
    Calls Tryd.prog 16 #[.string s] w (SmallPost w (vS s)) := by
  have hm := lim_max hs
  have hfit := fits_iff hng
  have hp := Num.Plain.sdig s.data.toList
  obtain ⟨D, hD, hDl, hall, hDs⟩ := dig_str s
  rw [← hDl] at hfit hp
  have HV := Lib.hid (show vS s = -(Num.num D.data.toList : Int) by rw [hDl]; exact (vS_neg hng).1)
  have HD := Lib.hid hD
  have HA := Lib.hid hall
  have HF := Lib.hid hfit
  have HNG := Lib.hid hng
  clear hD hall hDl hfit hng
  by_cases h19 : 19 < D.size
  · have hbig : fits (vS s) = false := by
      rw [HF.out, decide_eq_false_iff_not]
      have := plain_ge hp (show 19 < D.data.toList.length by rw [size_toList]; exact h19)
      unfold mostN; simp; omega
    have H := Lib.hid (small_none (w := w) hbig)
    clear hbig hp
    go_enter Tryd.func16, Tryd.ntmps16
    go_wp2_with fail
    refine (digits_any s w hm).mono ?_
    rintro e w' ⟨rfl, rfl⟩
    rw [← HD.out, HNG.out]
    go_wp2_with fail
    go_ret2
    exact H.out
  · by_cases hfits : Num.num D.data.toList ≤ mostN true
    · have hyes : fits (vS s) = true := by rw [HF.out]; exact decide_eq_true hfits
      have H := Lib.hid (small_some (w := w) hyes)
      clear hyes hp
      have h9 : (D.size : Int) < 19 ∨ (((D.size : Int) == 19) = true ∧ D.size = 19) := by
        by_cases h : D.size = 19
        · exact .inr ⟨by rw [h]; rfl, h⟩
        · exact .inl (by omega)
      have hcases : (((D.size : Int) == 19) = false) ∨ ((((D.size : Int) == 19) = true) ∧ Op.bytesLess D.toList [57, 50, 50, 51, 51, 55, 50, 48, 51, 54, 56, 53, 52, 55, 55, 53, 56, 48, 56] = true) ∨ ((((D.size : Int) == 19) = true) ∧ Op.bytesLess D.toList [57, 50, 50, 51, 51, 55, 50, 48, 51, 54, 56, 53, 52, 55, 55, 53, 56, 48, 56] = false ∧ (D.toList == [57, 50, 50, 51, 51, 55, 50, 48, 51, 54, 56, 53, 52, 55, 55, 53, 56, 48, 56]) = true) := by
        rcases h9 with h | ⟨h, h'⟩
        · left; rw [beq_eq_false_iff_ne]; omega
        · right
          have e1 := bytesLess_num _ _ HA.out (most_all true) (by rw [most_len, size_toList, h'])
          have e2 := beq_num HA.out (most_all true) (by rw [most_len, size_toList, h'])
          rw [most_num] at e1 e2
          rw [Lib.toList_data]
          by_cases hq : Num.num D.data.toList < mostN true
          · exact .inl ⟨h, by rw [decide_eq_true hq] at e1; exact e1⟩
          · exact .inr ⟨h, by rw [decide_eq_false hq] at e1; exact e1, by rw [decide_eq_true (by omega)] at e2; exact e2⟩
      clear h9
      have HFT := Lib.hid hfits
      clear hfits
      rcases hcases with hc | ⟨hc, hc2⟩ | ⟨hc, hc2, hc3⟩
      · go_enter Tryd.func16, Tryd.ntmps16
        go_wp2_with fail
        refine (digits_any s w hm).mono ?_
        rintro e w' ⟨rfl, rfl⟩
        rw [← HD.out, HNG.out]
        go_wp2_with fail
        clear hc
        go_loop [7, 8] (fun nv iv => ∃ k : Nat, k ≤ D.size ∧ iv = .int .i64 k ∧ nv = .int .i64 (-((Num.num (D.data.toList.take k) : Nat) : Int))) (fun _ iv => D.size - (intOf iv).toNat)
        case atStart => exact ⟨0, Nat.zero_le _, rfl, rfl⟩
        case round =>
          obtain ⟨k, hk, rfl, rfl⟩ := hrel
          have hmx : mostN true ≤ 9223372036854775808 := by unfold mostN; simp
          have hb := num_take_le D.data.toList k
          obtain ⟨x, hx⟩ : ∃ x, x = Num.num (D.data.toList.take k) := ⟨_, rfl⟩
          rw [← hx] at hb ⊢
          by_cases hlt : k < D.size
          · have hd := dig_at hlt HA.out
            have hsu := num_take_succ hlt
            have hb3 := num_take_le D.data.toList (k + 1)
            rw [← hx] at hsu
            have hb4 : 10 * x + (((D[k]'hlt).toNat) - 48) ≤ 9223372036854775808 := by have := HFT.out; rw [hsu] at hb3; unfold Num.dv at hb3; omega
            have hn : -((Num.num (D.data.toList.take (k + 1)) : Nat) : Int) = 10 * (-(x : Int)) - (((D[k]'hlt).toNat : Int) - 48) := by rw [hsu]; unfold Num.dv; omega
            have HN := Lib.hid hn
            have hd1 : (48 : Int) ≤ ((D[k]'hlt).toNat : Int) := by omega
            have hd2 : ((D[k]'hlt).toNat : Int) ≤ 57 := by omega
            have hb5 : (x : Int) ≤ 922337203685477580 := by omega
            have hb6 : -9223372036854775808 ≤ 10 * (-(x : Int)) - (((D[k]'hlt).toNat : Int) - 48) := by omega
            clear hn hsu hx hd hb hb3 hb4 hmx
            go_wp2_with fail
            go_round
            case rel => exact ⟨k + 1, by omega, by go_num, by rw [HN.out]⟩
            case measure => simp [intOf]; omega
          · have hx2 : x = Num.num D.data.toList := by rw [hx, List.take_of_length_le (by rw [size_toList]; omega)]
            have hxm : x ≤ 9223372036854775808 := by have := HFT.out; unfold mostN at this; simp at this; omega
            have HX := Lib.hid (show vS s = -(x : Int) by rw [HV.out, hx2])
            clear hx hx2 hb hmx
            go_wp2_with fail
            go_ret2
            have := H.out
            rw [HX.out] at this ⊢
            exact this
      · go_enter Tryd.func16, Tryd.ntmps16
        go_wp2_with fail
        refine (digits_any s w hm).mono ?_
        rintro e w' ⟨rfl, rfl⟩
        rw [← HD.out, HNG.out]
        go_wp2_with fail
        clear hc hc2
        go_loop [7, 8] (fun nv iv => ∃ k : Nat, k ≤ D.size ∧ iv = .int .i64 k ∧ nv = .int .i64 (-((Num.num (D.data.toList.take k) : Nat) : Int))) (fun _ iv => D.size - (intOf iv).toNat)
        case atStart => exact ⟨0, Nat.zero_le _, rfl, rfl⟩
        case round =>
          obtain ⟨k, hk, rfl, rfl⟩ := hrel
          have hmx : mostN true ≤ 9223372036854775808 := by unfold mostN; simp
          have hb := num_take_le D.data.toList k
          obtain ⟨x, hx⟩ : ∃ x, x = Num.num (D.data.toList.take k) := ⟨_, rfl⟩
          rw [← hx] at hb ⊢
          by_cases hlt : k < D.size
          · have hd := dig_at hlt HA.out
            have hsu := num_take_succ hlt
            have hb3 := num_take_le D.data.toList (k + 1)
            rw [← hx] at hsu
            have hb4 : 10 * x + (((D[k]'hlt).toNat) - 48) ≤ 9223372036854775808 := by have := HFT.out; rw [hsu] at hb3; unfold Num.dv at hb3; omega
            have hn : -((Num.num (D.data.toList.take (k + 1)) : Nat) : Int) = 10 * (-(x : Int)) - (((D[k]'hlt).toNat : Int) - 48) := by rw [hsu]; unfold Num.dv; omega
            have HN := Lib.hid hn
            have hd1 : (48 : Int) ≤ ((D[k]'hlt).toNat : Int) := by omega
            have hd2 : ((D[k]'hlt).toNat : Int) ≤ 57 := by omega
            have hb5 : (x : Int) ≤ 922337203685477580 := by omega
            have hb6 : -9223372036854775808 ≤ 10 * (-(x : Int)) - (((D[k]'hlt).toNat : Int) - 48) := by omega
            clear hn hsu hx hd hb hb3 hb4 hmx
            go_wp2_with fail
            go_round
            case rel => exact ⟨k + 1, by omega, by go_num, by rw [HN.out]⟩
            case measure => simp [intOf]; omega
          · have hx2 : x = Num.num D.data.toList := by rw [hx, List.take_of_length_le (by rw [size_toList]; omega)]
            have hxm : x ≤ 9223372036854775808 := by have := HFT.out; unfold mostN at this; simp at this; omega
            have HX := Lib.hid (show vS s = -(x : Int) by rw [HV.out, hx2])
            clear hx hx2 hb hmx
            go_wp2_with fail
            go_ret2
            have := H.out
            rw [HX.out] at this ⊢
            exact this
      · go_enter Tryd.func16, Tryd.ntmps16
        go_wp2_with fail
        refine (digits_any s w hm).mono ?_
        rintro e w' ⟨rfl, rfl⟩
        rw [← HD.out, HNG.out]
        go_wp2_with fail
        clear hc hc2 hc3
        go_loop [7, 8] (fun nv iv => ∃ k : Nat, k ≤ D.size ∧ iv = .int .i64 k ∧ nv = .int .i64 (-((Num.num (D.data.toList.take k) : Nat) : Int))) (fun _ iv => D.size - (intOf iv).toNat)
        case atStart => exact ⟨0, Nat.zero_le _, rfl, rfl⟩
        case round =>
          obtain ⟨k, hk, rfl, rfl⟩ := hrel
          have hmx : mostN true ≤ 9223372036854775808 := by unfold mostN; simp
          have hb := num_take_le D.data.toList k
          obtain ⟨x, hx⟩ : ∃ x, x = Num.num (D.data.toList.take k) := ⟨_, rfl⟩
          rw [← hx] at hb ⊢
          by_cases hlt : k < D.size
          · have hd := dig_at hlt HA.out
            have hsu := num_take_succ hlt
            have hb3 := num_take_le D.data.toList (k + 1)
            rw [← hx] at hsu
            have hb4 : 10 * x + (((D[k]'hlt).toNat) - 48) ≤ 9223372036854775808 := by have := HFT.out; rw [hsu] at hb3; unfold Num.dv at hb3; omega
            have hn : -((Num.num (D.data.toList.take (k + 1)) : Nat) : Int) = 10 * (-(x : Int)) - (((D[k]'hlt).toNat : Int) - 48) := by rw [hsu]; unfold Num.dv; omega
            have HN := Lib.hid hn
            have hd1 : (48 : Int) ≤ ((D[k]'hlt).toNat : Int) := by omega
            have hd2 : ((D[k]'hlt).toNat : Int) ≤ 57 := by omega
            have hb5 : (x : Int) ≤ 922337203685477580 := by omega
            have hb6 : -9223372036854775808 ≤ 10 * (-(x : Int)) - (((D[k]'hlt).toNat : Int) - 48) := by omega
            clear hn hsu hx hd hb hb3 hb4 hmx
            go_wp2_with fail
            go_round
            case rel => exact ⟨k + 1, by omega, by go_num, by rw [HN.out]⟩
            case measure => simp [intOf]; omega
          · have hx2 : x = Num.num D.data.toList := by rw [hx, List.take_of_length_le (by rw [size_toList]; omega)]
            have hxm : x ≤ 9223372036854775808 := by have := HFT.out; unfold mostN at this; simp at this; omega
            have HX := Lib.hid (show vS s = -(x : Int) by rw [HV.out, hx2])
            clear hx hx2 hb hmx
            go_wp2_with fail
            go_ret2
            have := H.out
            rw [HX.out] at this ⊢
            exact this
    · have hno : fits (vS s) = false := by rw [HF.out]; exact decide_eq_false hfits
      have H := Lib.hid (small_none (w := w) hno)
      have h19' : D.size = 19 := by
        have h1 := Num.num_lt _ HA.out
        rw [size_toList] at h1
        by_cases h : D.size = 19
        · exact h
        · have h2 := Nat.pow_le_pow_right (show 1 ≤ 10 by decide) (show D.size ≤ 18 by omega)
          unfold mostN at hfits
          simp at hfits
          omega
      have hc : ((D.size : Int) == 19) = true := by rw [h19']; rfl
      have e1 := bytesLess_num _ _ HA.out (most_all true) (by rw [most_len, size_toList, h19'])
      have e2 := beq_num HA.out (most_all true) (by rw [most_len, size_toList, h19'])
      rw [most_num] at e1 e2
      have hc2 : Op.bytesLess D.toList [57, 50, 50, 51, 51, 55, 50, 48, 51, 54, 56, 53, 52, 55, 55, 53, 56, 48, 56] = false := by rw [Lib.toList_data]; rw [decide_eq_false (by omega)] at e1; exact e1
      have hc3 : (D.toList == [57, 50, 50, 51, 51, 55, 50, 48, 51, 54, 56, 53, 52, 55, 55, 53, 56, 48, 56]) = false := by rw [Lib.toList_data]; rw [decide_eq_false (by omega)] at e2; exact e2
      clear e1 e2
      clear hno hp h19' hfits
      go_enter Tryd.func16, Tryd.ntmps16
      go_wp2_with fail
      refine (digits_any s w hm).mono ?_
      rintro e w' ⟨rfl, rfl⟩
      rw [← HD.out, HNG.out]
      go_wp2_with fail
      go_ret2
      exact H.out

theorem rSmall_any (s : ByteArray) (w : World) (hs : s.size ≤ 4294967296) :
    Calls Tryd.prog 16 #[.string s] w (SmallPost w (vS s)) := by
  cases h : Num.sneg s.data.toList
  · exact rSmall_false s w hs h
  · exact rSmall_true s w hs h


end Go.Proofs.YtaopneanfflbcaaDoor
