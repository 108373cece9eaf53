/- The reference implementation of layer 1: short, Small, Of, Compare: walks. -/
import Derived.Test.YtldohkfomdcpoaaGreatDoorRefB
import Derived.Test.YtldohkfomdcpoaaGreatDoorSmall
namespace Go.Proofs.YtldohkfomdcpoaaGreatDoor
open Go.RowKit

theorem num_take_le (d : List UInt8) (k : Nat) : Num.num (d.take k) ≤ Num.num d := by
  conv => rhs; rw [← List.take_append_drop k d]
  rw [Num.num_append]
  have := Nat.le_mul_of_pos_right (Num.num (d.take k)) (Nat.pow_pos (n := (d.drop k).length) (show 0 < 10 by decide))
  omega
theorem num_take_succ {D : ByteArray} {k : Nat} (h : k < D.size) : Num.num (D.data.toList.take (k + 1)) = 10 * Num.num (D.data.toList.take k) + Num.dv (D[k]'h) := by
  have hl : k < D.data.toList.length := by rw [size_toList]; exact h
  rw [List.take_succ_eq_append_getElem hl, byte_at D k h hl, Num.num_snoc]
theorem dig_at {D : ByteArray} {k : Nat} (h : k < D.size) (ha : D.data.toList.all Num.isDig = true) : 48 ≤ (D[k]'h).toNat ∧ (D[k]'h).toNat ≤ 57 := by
  have hl : k < D.data.toList.length := by rw [size_toList]; exact h
  have := List.all_eq_true.1 ha _ (List.getElem_mem hl)
  rw [byte_at D k h hl] at this
  exact (Num.isDig_iff _).1 this

/-- the digits of a string, as Go's string -/
theorem dig_str (s : ByteArray) : ∃ D : ByteArray, D = ⟨(Num.sdig s.data.toList).toArray⟩ ∧ D.data.toList = Num.sdig s.data.toList ∧ D.data.toList.all Num.isDig = true ∧ D.size ≤ s.size := by
  refine ⟨_, rfl, rfl, (Num.Plain.sdig _).1, ?_⟩
  have := Num.sdig_length s.data.toList
  rw [size_toList] at this
  rw [← size_toList]; exact this

/-- what short returns -/
def shortV (s : ByteArray) : Value := if (Num.sdig s.data.toList).length ≤ 17 then .tuple #[.int .i64 (vS s), .bool true] else .tuple #[.int .i64 0, .bool false]

set_option maxHeartbeats 1000000 in
theorem short_yes (s : ByteArray) (w : World) (hs : s.size ≤ 4294967296) (h17 : (Num.sdig s.data.toList).length ≤ 17) :
    Calls Tryz.prog 76 #[.string s] w fun e w' => e = .returned (.tuple #[.int .i64 (vS s), .bool true]) ∧ w = w' := by
  have hm := lim_max hs
  obtain ⟨D, hD, hDl, hall, hDs⟩ := dig_str s
  have hD17 : D.size ≤ 17 := by rw [← size_toList, hDl]; exact h17
  have hlt := Num.num_lt _ hall
  rw [size_toList] at hlt
  have hlt2 : Num.num D.data.toList < 100000000000000000 := by
    have := Nat.pow_le_pow_right (show 1 ≤ 10 by decide) hD17
    omega
  have hv : vS s = if Num.sneg s.data.toList then -(Num.num D.data.toList : Int) else Num.num D.data.toList := by
    rw [hDl]; rfl
  have HV := Lib.hid hv
  have HD := Lib.hid hD
  have HA := Lib.hid hall
  have HLT := Lib.hid hlt2
  clear hv hD hall hlt hlt2 hDl h17
  obtain ⟨ng, hng⟩ : ∃ ng, Num.sneg s.data.toList = ng := ⟨_, rfl⟩
  go_enter Tryz.func76, Tryz.ntmps76
  go_wp2_with fail
  refine (digits_any s w hm).mono ?_
  rintro e w' ⟨rfl, rfl⟩
  rw [← HD.out, hng]
  have HNG := Lib.hid hng
  clear hng
  go_wp2_with fail
  go_loop [6, 7] (fun nv iv => ∃ k : Nat, k ≤ D.size ∧ iv = .int .i64 k ∧ nv = .int .i64 (Num.num (D.data.toList.take k) : Nat)) (fun _ iv => D.size - (intOf iv).toNat)
  case atStart => exact ⟨0, Nat.zero_le _, rfl, rfl⟩
  case round =>
    obtain ⟨k, hk, rfl, rfl⟩ := hrel
    have hb := num_take_le D.data.toList k
    have hb2 : Num.num (D.data.toList.take k) < 100000000000000000 := by have := HLT.out; omega
    obtain ⟨x, hx⟩ : ∃ x, x = Num.num (D.data.toList.take k) := ⟨_, rfl⟩
    rw [← hx] at hb2 ⊢
    clear hb
    by_cases hlt : k < D.size
    · have hd := dig_at hlt HA.out
      have hsu := num_take_succ hlt
      rw [← hx] at hsu
      have hn : ((Num.num (D.data.toList.take (k + 1)) : Nat) : Int) = 10 * (x : Int) + (((D[k]'hlt).toNat : Int) - 48) := by rw [hsu]; unfold Num.dv; omega
      have HN := Lib.hid hn
      have hd1 : (48 : Int) ≤ ((D[k]'hlt).toNat : Int) := by omega
      have hd2 : ((D[k]'hlt).toNat : Int) ≤ 57 := by omega
      clear hn hsu hx hd
      go_wp2_with fail
      go_round
      case rel => exact ⟨k + 1, by omega, by go_num, by rw [HN.out]⟩
      case measure => simp [intOf]; omega
    · have hx2 : x = Num.num D.data.toList := by rw [hx, List.take_of_length_le (by rw [size_toList]; omega)]
      have HX := Lib.hid hx2
      clear hx hx2
      cases ng
      · have hv : vS s = (x : Int) := by have := HV.out; rw [HNG.out] at this; rw [this, HX.out]; rfl
        have H := Lib.hid hv
        clear hv
        go_wp2_with fail
        go_ret2
        exact ⟨by rw [H.out]; rfl, rfl⟩
      · have hv : vS s = -(x : Int) := by have := HV.out; rw [HNG.out] at this; rw [this, HX.out]; rfl
        have H := Lib.hid hv
        clear hv
        go_wp2_with fail
        go_ret2
        exact ⟨by rw [H.out]; rfl, rfl⟩

set_option maxHeartbeats 1000000 in
theorem short_no (s : ByteArray) (w : World) (hs : s.size ≤ 4294967296) (h17 : 17 < (Num.sdig s.data.toList).length) :
    Calls Tryz.prog 76 #[.string s] w fun e w' => e = .returned (.tuple #[.int .i64 0, .bool false]) ∧ w = w' := by
  have hm := lim_max hs
  go_enter Tryz.func76, Tryz.ntmps76
  go_wp2_with fail
  refine (digits_any s w hm).mono ?_
  rintro e w' ⟨rfl, rfl⟩
  go_wp2_with fail
  go_ret2
  exact ⟨rfl, rfl⟩

theorem short_any (s : ByteArray) (w : World) (hs : s.size ≤ 4294967296) :
    Calls Tryz.prog 76 #[.string s] w fun e w' => e = .returned (shortV s) ∧ w = w' := by
  unfold shortV
  by_cases h : (Num.sdig s.data.toList).length ≤ 17
  · rw [if_pos h]; exact short_yes s w hs h
  · rw [if_neg h]; exact short_no s w hs (by omega)

end Go.Proofs.YtldohkfomdcpoaaGreatDoor
