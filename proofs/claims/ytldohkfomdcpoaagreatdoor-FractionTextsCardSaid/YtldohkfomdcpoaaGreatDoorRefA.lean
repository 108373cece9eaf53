/- The reference implementation of layer 1: digits, Canonical, Check, Neg, Print, Parse: walks. -/
import Derived.Test.YtldohkfomdcpoaaGreatDoorCompare
namespace Go.Proofs.YtldohkfomdcpoaaGreatDoor
open Go.RowKit

theorem split_good' {l d : List UInt8} {ng : Bool} (h : (ng, d) = Num.cut l) (hd : d.all Num.isDig = true) : Num.sdig l = Num.strip d := by
  unfold Num.sdig; rw [← h]; simp only [hd]; rfl
theorem sneg_of {l d : List UInt8} {ng : Bool} (h : (ng, d) = Num.cut l) : Num.sneg l = (ng && !(Num.sdig l).isEmpty) := by
  unfold Num.sneg; rw [← h]

def strSz : Value → Nat | .string s => s.size | _ => 0

/-- the three ways in which a string begins -/
theorem cut_ways (s : ByteArray) : (s.size = 0 ∧ Num.cut s.data.toList = (false, s.data.toList)) ∨
    (∃ h : 0 < s.size, s[0]'h = 45 ∧ Num.cut s.data.toList = (true, (s.extract 1 s.size).data.toList)) ∨
    (∃ h : 0 < s.size, s[0]'h ≠ 45 ∧ Num.cut s.data.toList = (false, s.data.toList)) := by
  by_cases h0 : 0 < s.size
  · have hl : 0 < s.data.toList.length := by rw [size_toList]; exact h0
    have hb := byte_at s 0 h0 hl
    by_cases h : s[0]'h0 = 45
    · refine .inr (.inl ⟨h0, h, ?_⟩)
      unfold Num.cut
      rw [if_pos, Lib.extract_to_end]
      · simp
      · rw [List.head?_eq_getElem?, List.getElem?_eq_getElem hl, hb, h]
    · refine .inr (.inr ⟨h0, h, ?_⟩)
      unfold Num.cut
      rw [if_neg]
      rw [List.head?_eq_getElem?, List.getElem?_eq_getElem hl, hb]
      simpa using h
  · refine .inl ⟨by omega, ?_⟩
    unfold Num.cut
    rw [if_neg]
    have : s.data.toList = [] := List.eq_nil_of_length_eq_zero (by rw [size_toList]; omega)
    rw [this]; simp

theorem strip_at_zero {E : ByteArray} (h : 0 < E.size) (h0 : E[0]'h = 48) : Num.strip (E.extract 1 E.size).data.toList = Num.strip E.data.toList := by
  have hl : 0 < E.data.toList.length := by rw [size_toList]; exact h
  have hb := byte_at E 0 h hl
  rw [Lib.extract_to_end]
  cases he : E.data.toList with
  | nil => rw [he] at hl; simp at hl
  | cons c r =>
    have : c = 48 := by
      have := hb
      simp only [he, List.getElem_cons_zero] at this
      rw [this, h0]
    subst this
    simp [Num.strip]
theorem strip_at {E : ByteArray} (h : 0 < E.size) (h0 : E[0]'h ≠ 48) : Num.strip E.data.toList = E.data.toList := by
  have hl : 0 < E.data.toList.length := by rw [size_toList]; exact h
  have hb := byte_at E 0 h hl
  cases he : E.data.toList with
  | nil => rfl
  | cons c r =>
    have : c ≠ 48 := by
      have := hb
      simp only [he, List.getElem_cons_zero] at this
      rw [this]; exact h0
    simp [Num.strip, this]
theorem strip_empty {E : ByteArray} (h : E.size = 0) : Num.strip E.data.toList = E.data.toList := by
  have : E.data.toList = [] := List.eq_nil_of_length_eq_zero (by rw [size_toList]; omega)
  rw [this]; rfl
theorem ofToList (E : ByteArray) : (ByteArray.mk E.data.toList.toArray) = E := by cases E; rfl
theorem isEmpty_size (E : ByteArray) : E.data.toList.isEmpty = decide (E.size = 0) := by
  rw [Bool.eq_iff_iff, decide_eq_true_iff, List.isEmpty_iff, ← List.length_eq_zero_iff, size_toList]
theorem u8_beq {a : UInt8} {n : Nat} (h : a.toNat = n) : ((a.toNat : Int) == n) = true := by simp [h]

/-- what digits returns at a string -/
def DigPost (s : ByteArray) (w : World) (e : Ending) (w' : World) : Prop := e = .returned (.tuple #[.string ⟨(Num.sdig s.data.toList).toArray⟩, .bool (Num.sneg s.data.toList)]) ∧ w = w'

theorem dig_bad {s : ByteArray} {ng : Bool} {d : List UInt8} (h : (ng, d) = Num.cut s.data.toList) (hd : d.all Num.isDig = false) {w : World} : DigPost s w (.returned (.tuple #[.string ⟨#[]⟩, .bool false])) w := by
  have := split_bad h hd
  unfold DigPost; rw [this.1, this.2]; exact ⟨rfl, rfl⟩
theorem dig_good {s E : ByteArray} {ng : Bool} {d : List UInt8} (h : (ng, d) = Num.cut s.data.toList) (hd : d.all Num.isDig = true) (hE : Num.strip d = E.data.toList) {w : World} {b : Bool} (hb : b = (ng && !decide (E.size = 0))) :
    DigPost s w (.returned (.tuple #[.string E, .bool b])) w := by
  have h1 := split_good' h hd
  have h2 := sneg_of h
  unfold DigPost
  rw [h2, h1, hE, ofToList, hb, isEmpty_size]; exact ⟨rfl, rfl⟩

set_option maxHeartbeats 1000000 in
theorem digits_any (s : ByteArray) (w : World) (hs : s.size ≤ maxLen) :
    Calls Tryz.prog 75 #[.string s] w (DigPost s w) := by
  have hs' : s.size ≤ 9223372036854775807 := by unfold maxLen at hs; omega
  rcases cut_ways s with ⟨h0, hc⟩ | ⟨h0, h1, hc⟩ | ⟨h0, h1, hc⟩
  · have h0' : ¬ 0 < s.size := by omega
    have HC := Lib.hid hc.symm
    clear hc h0
    go_enter Tryz.func75, Tryz.ntmps75
    go_wp2_with fail
    go_loop [6] (fun i => ∃ k : Nat, k ≤ s.size ∧ i = .int .i64 k ∧ (s.data.toList.take k).all Num.isDig = true) (fun i => s.size - (intOf i).toNat)
    case atStart => exact ⟨0, Nat.zero_le _, rfl, rfl⟩
    case round =>
      obtain ⟨k, hk, rfl, ha⟩ := hrel
      have HA := Lib.hid ha
      clear ha
      by_cases hlt : k < s.size
      · have hlt' : k < s.data.toList.length := by rw [size_toList]; exact hlt
        have HB := Lib.hid (byte_at s k hlt hlt')
        by_cases b1 : ((s[k]'hlt).toNat : Int) < 48
        · have H := Lib.hid (dig_bad HC.out (not_all_at hlt' (.inl (by rw [HB.out]; exact b1))) (w := w))
          clear HB hlt'
          go_wp2
          go_ret2
          exact H.out
        · by_cases b2 : 57 < ((s[k]'hlt).toNat : Int)
          · have H := Lib.hid (dig_bad HC.out (not_all_at hlt' (.inr (by rw [HB.out]; exact b2))) (w := w))
            clear HB hlt'
            go_wp2
            go_ret2
            exact H.out
          · have H := Lib.hid (all_take_succ HA.out hlt' (by rw [HB.out]; exact b1) (by rw [HB.out]; exact b2))
            clear HB hlt'
            go_wp2
            go_round
            case rel => exact ⟨k + 1, by omega, by go_num, H.out⟩
            case measure => simp [intOf]; omega
      · have ha : s.data.toList.all Num.isDig = true := by have := HA.out; rw [List.take_of_length_le (by rw [size_toList]; omega)] at this; exact this
        have HAll := Lib.hid ha
        clear ha HA
        go_wp2_with fail
        go_loop [4] (fun v => ∃ E : ByteArray, v = .string E ∧ E.size ≤ s.size ∧ Num.strip s.data.toList = Num.strip E.data.toList) (fun v => strSz v)
        case atStart => exact ⟨s, rfl, Nat.le_refl _, rfl⟩
        case round =>
          obtain ⟨E, rfl, hEs, hE⟩ := hrel
          have HE := Lib.hid hE
          clear hE
          by_cases he : 0 < E.size
          · by_cases hz : E[0]'he = 48
            · have hzb : (((E[0]'he).toNat : Int) == 48) = true := by rw [hz]; rfl
              have H := Lib.hid (HE.out.trans (strip_at_zero he hz).symm)
              have hsz : (E.extract 1 E.size).size = E.size - 1 := by simp
              have HSZ := Lib.hid hsz
              clear hz hsz
              go_wp2
              go_round
              case rel => exact ⟨_, rfl, by rw [HSZ.out]; omega, H.out⟩
              case measure => simp [strSz]; omega
            · have hzb : (((E[0]'he).toNat : Int) == 48) = false := by
                rw [beq_eq_false_iff_ne]; intro h; exact hz (UInt8.toNat_inj.1 (by show _ = 48; omega))
              have H := Lib.hid (dig_good HC.out HAll.out (HE.out.trans (strip_at he hz)) (w := w) (b := false) (by simp))
              clear hz
              go_wp2
              go_ret2
              exact H.out
          · have H := Lib.hid (dig_good HC.out HAll.out (HE.out.trans (strip_empty (by omega))) (w := w) (b := false) (by simp [show E.size = 0 by omega]))
            go_wp2
            go_ret2
            exact H.out
  · have hb : (((s[0]'h0).toNat : Int) == 45) = true := by rw [h1]; rfl
    obtain ⟨D, hD⟩ : ∃ D, s.extract 1 s.size = D := ⟨_, rfl⟩
    rw [hD] at hc
    have hDs : D.size ≤ 9223372036854775807 := by rw [← hD]; simp; omega
    have HC := Lib.hid hc.symm
    clear hc h1
    go_enter Tryz.func75, Tryz.ntmps75
    go_wp2_with fail
    clear hD hb
    go_wp2_with fail
    go_loop [6] (fun i => ∃ k : Nat, k ≤ D.size ∧ i = .int .i64 k ∧ (D.data.toList.take k).all Num.isDig = true) (fun i => D.size - (intOf i).toNat)
    case atStart => exact ⟨0, Nat.zero_le _, rfl, rfl⟩
    case round =>
      obtain ⟨k, hk, rfl, ha⟩ := hrel
      have HA := Lib.hid ha
      clear ha
      by_cases hlt : k < D.size
      · have hlt' : k < D.data.toList.length := by rw [size_toList]; exact hlt
        have HB := Lib.hid (byte_at D k hlt hlt')
        by_cases b1 : ((D[k]'hlt).toNat : Int) < 48
        · have H := Lib.hid (dig_bad HC.out (not_all_at hlt' (.inl (by rw [HB.out]; exact b1))) (w := w))
          clear HB hlt'
          go_wp2
          go_ret2
          exact H.out
        · by_cases b2 : 57 < ((D[k]'hlt).toNat : Int)
          · have H := Lib.hid (dig_bad HC.out (not_all_at hlt' (.inr (by rw [HB.out]; exact b2))) (w := w))
            clear HB hlt'
            go_wp2
            go_ret2
            exact H.out
          · have H := Lib.hid (all_take_succ HA.out hlt' (by rw [HB.out]; exact b1) (by rw [HB.out]; exact b2))
            clear HB hlt'
            go_wp2
            go_round
            case rel => exact ⟨k + 1, by omega, by go_num, H.out⟩
            case measure => simp [intOf]; omega
      · have ha : D.data.toList.all Num.isDig = true := by have := HA.out; rw [List.take_of_length_le (by rw [size_toList]; omega)] at this; exact this
        have HAll := Lib.hid ha
        clear ha HA
        go_wp2_with fail
        go_loop [4] (fun v => ∃ E : ByteArray, v = .string E ∧ E.size ≤ D.size ∧ Num.strip D.data.toList = Num.strip E.data.toList) (fun v => strSz v)
        case atStart => exact ⟨D, rfl, Nat.le_refl _, rfl⟩
        case round =>
          obtain ⟨E, rfl, hEs, hE⟩ := hrel
          have HE := Lib.hid hE
          clear hE
          by_cases he : 0 < E.size
          · by_cases hz : E[0]'he = 48
            · have hzb : (((E[0]'he).toNat : Int) == 48) = true := by rw [hz]; rfl
              have H := Lib.hid (HE.out.trans (strip_at_zero he hz).symm)
              have hsz : (E.extract 1 E.size).size = E.size - 1 := by simp
              have HSZ := Lib.hid hsz
              clear hz hsz
              go_wp2
              go_round
              case rel => exact ⟨_, rfl, by rw [HSZ.out]; omega, H.out⟩
              case measure => simp [strSz]; omega
            · have hzb : (((E[0]'he).toNat : Int) == 48) = false := by
                rw [beq_eq_false_iff_ne]; intro h; exact hz (UInt8.toNat_inj.1 (by show _ = 48; omega))
              have H := Lib.hid (dig_good HC.out HAll.out (HE.out.trans (strip_at he hz)) (w := w) (b := true) (by simp [show E.size ≠ 0 by omega]))
              clear hz
              go_wp2
              go_ret2
              exact H.out
          · have H := Lib.hid (dig_good HC.out HAll.out (HE.out.trans (strip_empty (by omega))) (w := w) (b := false) (by simp [show E.size = 0 by omega]))
            go_wp2
            go_ret2
            exact H.out
  · have hb : (((s[0]'h0).toNat : Int) == 45) = false := by
      rw [beq_eq_false_iff_ne]; intro h; exact h1 (UInt8.toNat_inj.1 (by show _ = 45; omega))
    have HC := Lib.hid hc.symm
    clear hc h1
    go_enter Tryz.func75, Tryz.ntmps75
    go_wp2_with fail
    go_loop [6] (fun i => ∃ k : Nat, k ≤ s.size ∧ i = .int .i64 k ∧ (s.data.toList.take k).all Num.isDig = true) (fun i => s.size - (intOf i).toNat)
    case atStart => exact ⟨0, Nat.zero_le _, rfl, rfl⟩
    case round =>
      obtain ⟨k, hk, rfl, ha⟩ := hrel
      have HA := Lib.hid ha
      clear ha
      by_cases hlt : k < s.size
      · have hlt' : k < s.data.toList.length := by rw [size_toList]; exact hlt
        have HB := Lib.hid (byte_at s k hlt hlt')
        by_cases b1 : ((s[k]'hlt).toNat : Int) < 48
        · have H := Lib.hid (dig_bad HC.out (not_all_at hlt' (.inl (by rw [HB.out]; exact b1))) (w := w))
          clear HB hlt'
          go_wp2
          go_ret2
          exact H.out
        · by_cases b2 : 57 < ((s[k]'hlt).toNat : Int)
          · have H := Lib.hid (dig_bad HC.out (not_all_at hlt' (.inr (by rw [HB.out]; exact b2))) (w := w))
            clear HB hlt'
            go_wp2
            go_ret2
            exact H.out
          · have H := Lib.hid (all_take_succ HA.out hlt' (by rw [HB.out]; exact b1) (by rw [HB.out]; exact b2))
            clear HB hlt'
            go_wp2
            go_round
            case rel => exact ⟨k + 1, by omega, by go_num, H.out⟩
            case measure => simp [intOf]; omega
      · have ha : s.data.toList.all Num.isDig = true := by have := HA.out; rw [List.take_of_length_le (by rw [size_toList]; omega)] at this; exact this
        have HAll := Lib.hid ha
        clear ha HA
        go_wp2_with fail
        go_loop [4] (fun v => ∃ E : ByteArray, v = .string E ∧ E.size ≤ s.size ∧ Num.strip s.data.toList = Num.strip E.data.toList) (fun v => strSz v)
        case atStart => exact ⟨s, rfl, Nat.le_refl _, rfl⟩
        case round =>
          obtain ⟨E, rfl, hEs, hE⟩ := hrel
          have HE := Lib.hid hE
          clear hE
          by_cases he : 0 < E.size
          · by_cases hz : E[0]'he = 48
            · have hzb : (((E[0]'he).toNat : Int) == 48) = true := by rw [hz]; rfl
              have H := Lib.hid (HE.out.trans (strip_at_zero he hz).symm)
              have hsz : (E.extract 1 E.size).size = E.size - 1 := by simp
              have HSZ := Lib.hid hsz
              clear hz hsz
              go_wp2
              go_round
              case rel => exact ⟨_, rfl, by rw [HSZ.out]; omega, H.out⟩
              case measure => simp [strSz]; omega
            · have hzb : (((E[0]'he).toNat : Int) == 48) = false := by
                rw [beq_eq_false_iff_ne]; intro h; exact hz (UInt8.toNat_inj.1 (by show _ = 48; omega))
              have H := Lib.hid (dig_good HC.out HAll.out (HE.out.trans (strip_at he hz)) (w := w) (b := false) (by simp))
              clear hz
              go_wp2
              go_ret2
              exact H.out
          · have H := Lib.hid (dig_good HC.out HAll.out (HE.out.trans (strip_empty (by omega))) (w := w) (b := false) (by simp [show E.size = 0 by omega]))
            go_wp2
            go_ret2
            exact H.out

end Go.Proofs.YtldohkfomdcpoaaGreatDoor
