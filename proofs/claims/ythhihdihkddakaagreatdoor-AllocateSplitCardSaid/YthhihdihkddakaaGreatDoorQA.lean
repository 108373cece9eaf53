/- The reference implementation of layer 1: digits, Canonical, Check, Neg, Print, Parse: walks. -/
import Derived.Test.YthhihdihkddakaaGreatDoorPA
import Derived.Test.YthhihdihkddakaaGreatDoorPC
import Derived.Test.YthhihdihkddakaaGreatDoorPB
import Derived.Laws.Runes
import Derived.Deep.CutBlock
import Derived.Deep.DeepCutAuto
namespace Go.Proofs.YthhihdihkddakaaGreatDoor
open Go.RowKit

theorem split_good' {l d : List UInt8} {ng : Bool} (h : (ng, d) = Num.cut l) (hd : d.all Num.isDig = true) : Num.sdig l = Num.strip d := by
  unfold Num.sdig; rw [← h]; simp only [hd]; rfl
theorem sneg_of {l d : List UInt8} {ng : Bool} (h : (ng, d) = Num.cut l) : Num.sneg l = (ng && !(Num.sdig l).isEmpty) := by
  unfold Num.sneg; rw [← h]

def strSz : Value → Nat | .string s => s.size | _ => 0

/-- the three ways in which a string begins -/
theorem cut_ways (s : ByteArray) : (s.size = 0 ∧ Num.cut s.data.toList = (false, s.data.toList)) ∨
    (∃ h : 0 < s.size, s[0]'h = 45 ∧ Num.cut s.data.toList = (true, (s.extract 1 s.size).data.toList)) ∨
    (∃ h : 0 < s.size, s[0]'h ≠ 45 ∧ Num.cut s.data.toList = (false, s.data.toList)) := by
  by_cases h0 : 0 < s.size
  · have hl : 0 < s.data.toList.length := by rw [size_toList]; exact h0
    have hb := byte_at s 0 h0 hl
    by_cases h : s[0]'h0 = 45
    · refine .inr (.inl ⟨h0, h, ?_⟩)
      unfold Num.cut
      rw [if_pos, Lib.extract_to_end]
      · simp
      · rw [List.head?_eq_getElem?, List.getElem?_eq_getElem hl, hb, h]
    · refine .inr (.inr ⟨h0, h, ?_⟩)
      unfold Num.cut
      rw [if_neg]
      rw [List.head?_eq_getElem?, List.getElem?_eq_getElem hl, hb]
      simpa using h
  · refine .inl ⟨by omega, ?_⟩
    unfold Num.cut
    rw [if_neg]
    have : s.data.toList = [] := List.eq_nil_of_length_eq_zero (by rw [size_toList]; omega)
    rw [this]; simp

theorem strip_at_zero {E : ByteArray} (h : 0 < E.size) (h0 : E[0]'h = 48) : Num.strip (E.extract 1 E.size).data.toList = Num.strip E.data.toList := by
  have hl : 0 < E.data.toList.length := by rw [size_toList]; exact h
  have hb := byte_at E 0 h hl
  rw [Lib.extract_to_end]
  cases he : E.data.toList with
  | nil => rw [he] at hl; simp at hl
  | cons c r =>
    have : c = 48 := by
      have := hb
      simp only [he, List.getElem_cons_zero] at this
      rw [this, h0]
    subst this
    simp [Num.strip]
theorem strip_at {E : ByteArray} (h : 0 < E.size) (h0 : E[0]'h ≠ 48) : Num.strip E.data.toList = E.data.toList := by
  have hl : 0 < E.data.toList.length := by rw [size_toList]; exact h
  have hb := byte_at E 0 h hl
  cases he : E.data.toList with
  | nil => rfl
  | cons c r =>
    have : c ≠ 48 := by
      have := hb
      simp only [he, List.getElem_cons_zero] at this
      rw [this]; exact h0
    simp [Num.strip, this]
theorem strip_empty {E : ByteArray} (h : E.size = 0) : Num.strip E.data.toList = E.data.toList := by
  have : E.data.toList = [] := List.eq_nil_of_length_eq_zero (by rw [size_toList]; omega)
  rw [this]; rfl
theorem ofToList (E : ByteArray) : (ByteArray.mk E.data.toList.toArray) = E := by cases E; rfl
theorem isEmpty_size (E : ByteArray) : E.data.toList.isEmpty = decide (E.size = 0) := by
  rw [Bool.eq_iff_iff, decide_eq_true_iff, List.isEmpty_iff, ← List.length_eq_zero_iff, size_toList]
theorem u8_beq {a : UInt8} {n : Nat} (h : a.toNat = n) : ((a.toNat : Int) == n) = true := by simp [h]

/-- what digits returns at a string -/
def DigPost (s : ByteArray) (w : World) (e : Ending) (w' : World) : Prop := e = .returned (.tuple #[.string ⟨(Num.sdig s.data.toList).toArray⟩, .bool (Num.sneg s.data.toList)]) ∧ w = w'

theorem dig_bad {s : ByteArray} {ng : Bool} {d : List UInt8} (h : (ng, d) = Num.cut s.data.toList) (hd : d.all Num.isDig = false) {w : World} : DigPost s w (.returned (.tuple #[.string ⟨#[]⟩, .bool false])) w := by
  have := split_bad h hd
  unfold DigPost; rw [this.1, this.2]; exact ⟨rfl, rfl⟩
theorem dig_good {s E : ByteArray} {ng : Bool} {d : List UInt8} (h : (ng, d) = Num.cut s.data.toList) (hd : d.all Num.isDig = true) (hE : Num.strip d = E.data.toList) {w : World} {b : Bool} (hb : b = (ng && !decide (E.size = 0))) :
    DigPost s w (.returned (.tuple #[.string E, .bool b])) w := by
  have h1 := split_good' h hd
  have h2 := sneg_of h
  unfold DigPost
  rw [h2, h1, hE, ofToList, hb, isEmpty_size]; exact ⟨rfl, rfl⟩

set_option maxHeartbeats 1000000 in
theorem digits_any (s : ByteArray) (w : World) (hs : s.size ≤ maxLen) :
    Calls Tryz.prog 111 #[.string s] w (DigPost s w) := by
  have hs' : s.size ≤ 9223372036854775807 := by unfold maxLen at hs; omega
  rcases cut_ways s with ⟨h0, hc⟩ | ⟨h0, h1, hc⟩ | ⟨h0, h1, hc⟩
  · have h0' : ¬ 0 < s.size := by omega
    have HC := Lib.hid hc.symm
    clear hc h0
    go_enter Tryz.func111, Tryz.ntmps111
    go_wp2_with fail
    go_loop [6] (fun i => ∃ k : Nat, k ≤ s.size ∧ i = .int .i64 k ∧ (s.data.toList.take k).all Num.isDig = true) (fun i => s.size - (intOf i).toNat)
    case atStart => exact ⟨0, Nat.zero_le _, rfl, rfl⟩
    case round =>
      obtain ⟨k, hk, rfl, ha⟩ := hrel
      have HA := Lib.hid ha
      clear ha
      by_cases hlt : k < s.size
      · have hlt' : k < s.data.toList.length := by rw [size_toList]; exact hlt
        have HB := Lib.hid (byte_at s k hlt hlt')
        by_cases b1 : ((s[k]'hlt).toNat : Int) < 48
        · have H := Lib.hid (dig_bad HC.out (not_all_at hlt' (.inl (by rw [HB.out]; exact b1))) (w := w))
          clear HB hlt'
          go_wp2
          go_ret2
          exact H.out
        · by_cases b2 : 57 < ((s[k]'hlt).toNat : Int)
          · have H := Lib.hid (dig_bad HC.out (not_all_at hlt' (.inr (by rw [HB.out]; exact b2))) (w := w))
            clear HB hlt'
            go_wp2
            go_ret2
            exact H.out
          · have H := Lib.hid (all_take_succ HA.out hlt' (by rw [HB.out]; exact b1) (by rw [HB.out]; exact b2))
            clear HB hlt'
            go_wp2
            go_round
            case rel => exact ⟨k + 1, by omega, by go_num, H.out⟩
            case measure => simp [intOf]; omega
      · have ha : s.data.toList.all Num.isDig = true := by have := HA.out; rw [List.take_of_length_le (by rw [size_toList]; omega)] at this; exact this
        have HAll := Lib.hid ha
        clear ha HA
        go_wp2_with fail
        go_loop [4] (fun v => ∃ E : ByteArray, v = .string E ∧ E.size ≤ s.size ∧ Num.strip s.data.toList = Num.strip E.data.toList) (fun v => strSz v)
        case atStart => exact ⟨s, rfl, Nat.le_refl _, rfl⟩
        case round =>
          obtain ⟨E, rfl, hEs, hE⟩ := hrel
          have HE := Lib.hid hE
          clear hE
          by_cases he : 0 < E.size
          · by_cases hz : E[0]'he = 48
            · have hzb : (((E[0]'he).toNat : Int) == 48) = true := by rw [hz]; rfl
              have H := Lib.hid (HE.out.trans (strip_at_zero he hz).symm)
              have hsz : (E.extract 1 E.size).size = E.size - 1 := by simp
              have HSZ := Lib.hid hsz
              clear hz hsz
              go_wp2
              go_round
              case rel => exact ⟨_, rfl, by rw [HSZ.out]; omega, H.out⟩
              case measure => simp [strSz]; omega
            · have hzb : (((E[0]'he).toNat : Int) == 48) = false := by
                rw [beq_eq_false_iff_ne]; intro h; exact hz (UInt8.toNat_inj.1 (by show _ = 48; omega))
              have H := Lib.hid (dig_good HC.out HAll.out (HE.out.trans (strip_at he hz)) (w := w) (b := false) (by simp))
              clear hz
              go_wp2
              go_ret2
              exact H.out
          · have H := Lib.hid (dig_good HC.out HAll.out (HE.out.trans (strip_empty (by omega))) (w := w) (b := false) (by simp [show E.size = 0 by omega]))
            go_wp2
            go_ret2
            exact H.out
  · have hb : (((s[0]'h0).toNat : Int) == 45) = true := by rw [h1]; rfl
    obtain ⟨D, hD⟩ : ∃ D, s.extract 1 s.size = D := ⟨_, rfl⟩
    rw [hD] at hc
    have hDs : D.size ≤ 9223372036854775807 := by rw [← hD]; simp; omega
    have HC := Lib.hid hc.symm
    clear hc h1
    go_enter Tryz.func111, Tryz.ntmps111
    go_wp2_with fail
    clear hD hb
    go_wp2_with fail
    go_loop [6] (fun i => ∃ k : Nat, k ≤ D.size ∧ i = .int .i64 k ∧ (D.data.toList.take k).all Num.isDig = true) (fun i => D.size - (intOf i).toNat)
    case atStart => exact ⟨0, Nat.zero_le _, rfl, rfl⟩
    case round =>
      obtain ⟨k, hk, rfl, ha⟩ := hrel
      have HA := Lib.hid ha
      clear ha
      by_cases hlt : k < D.size
      · have hlt' : k < D.data.toList.length := by rw [size_toList]; exact hlt
        have HB := Lib.hid (byte_at D k hlt hlt')
        by_cases b1 : ((D[k]'hlt).toNat : Int) < 48
        · have H := Lib.hid (dig_bad HC.out (not_all_at hlt' (.inl (by rw [HB.out]; exact b1))) (w := w))
          clear HB hlt'
          go_wp2
          go_ret2
          exact H.out
        · by_cases b2 : 57 < ((D[k]'hlt).toNat : Int)
          · have H := Lib.hid (dig_bad HC.out (not_all_at hlt' (.inr (by rw [HB.out]; exact b2))) (w := w))
            clear HB hlt'
            go_wp2
            go_ret2
            exact H.out
          · have H := Lib.hid (all_take_succ HA.out hlt' (by rw [HB.out]; exact b1) (by rw [HB.out]; exact b2))
            clear HB hlt'
            go_wp2
            go_round
            case rel => exact ⟨k + 1, by omega, by go_num, H.out⟩
            case measure => simp [intOf]; omega
      · have ha : D.data.toList.all Num.isDig = true := by have := HA.out; rw [List.take_of_length_le (by rw [size_toList]; omega)] at this; exact this
        have HAll := Lib.hid ha
        clear ha HA
        go_wp2_with fail
        go_loop [4] (fun v => ∃ E : ByteArray, v = .string E ∧ E.size ≤ D.size ∧ Num.strip D.data.toList = Num.strip E.data.toList) (fun v => strSz v)
        case atStart => exact ⟨D, rfl, Nat.le_refl _, rfl⟩
        case round =>
          obtain ⟨E, rfl, hEs, hE⟩ := hrel
          have HE := Lib.hid hE
          clear hE
          by_cases he : 0 < E.size
          · by_cases hz : E[0]'he = 48
            · have hzb : (((E[0]'he).toNat : Int) == 48) = true := by rw [hz]; rfl
              have H := Lib.hid (HE.out.trans (strip_at_zero he hz).symm)
              have hsz : (E.extract 1 E.size).size = E.size - 1 := by simp
              have HSZ := Lib.hid hsz
              clear hz hsz
              go_wp2
              go_round
              case rel => exact ⟨_, rfl, by rw [HSZ.out]; omega, H.out⟩
              case measure => simp [strSz]; omega
            · have hzb : (((E[0]'he).toNat : Int) == 48) = false := by
                rw [beq_eq_false_iff_ne]; intro h; exact hz (UInt8.toNat_inj.1 (by show _ = 48; omega))
              have H := Lib.hid (dig_good HC.out HAll.out (HE.out.trans (strip_at he hz)) (w := w) (b := true) (by simp [show E.size ≠ 0 by omega]))
              clear hz
              go_wp2
              go_ret2
              exact H.out
          · have H := Lib.hid (dig_good HC.out HAll.out (HE.out.trans (strip_empty (by omega))) (w := w) (b := false) (by simp [show E.size = 0 by omega]))
            go_wp2
            go_ret2
            exact H.out
  · have hb : (((s[0]'h0).toNat : Int) == 45) = false := by
      rw [beq_eq_false_iff_ne]; intro h; exact h1 (UInt8.toNat_inj.1 (by show _ = 45; omega))
    have HC := Lib.hid hc.symm
    clear hc h1
    go_enter Tryz.func111, Tryz.ntmps111
    go_wp2_with fail
    go_loop [6] (fun i => ∃ k : Nat, k ≤ s.size ∧ i = .int .i64 k ∧ (s.data.toList.take k).all Num.isDig = true) (fun i => s.size - (intOf i).toNat)
    case atStart => exact ⟨0, Nat.zero_le _, rfl, rfl⟩
    case round =>
      obtain ⟨k, hk, rfl, ha⟩ := hrel
      have HA := Lib.hid ha
      clear ha
      by_cases hlt : k < s.size
      · have hlt' : k < s.data.toList.length := by rw [size_toList]; exact hlt
        have HB := Lib.hid (byte_at s k hlt hlt')
        by_cases b1 : ((s[k]'hlt).toNat : Int) < 48
        · have H := Lib.hid (dig_bad HC.out (not_all_at hlt' (.inl (by rw [HB.out]; exact b1))) (w := w))
          clear HB hlt'
          go_wp2
          go_ret2
          exact H.out
        · by_cases b2 : 57 < ((s[k]'hlt).toNat : Int)
          · have H := Lib.hid (dig_bad HC.out (not_all_at hlt' (.inr (by rw [HB.out]; exact b2))) (w := w))
            clear HB hlt'
            go_wp2
            go_ret2
            exact H.out
          · have H := Lib.hid (all_take_succ HA.out hlt' (by rw [HB.out]; exact b1) (by rw [HB.out]; exact b2))
            clear HB hlt'
            go_wp2
            go_round
            case rel => exact ⟨k + 1, by omega, by go_num, H.out⟩
            case measure => simp [intOf]; omega
      · have ha : s.data.toList.all Num.isDig = true := by have := HA.out; rw [List.take_of_length_le (by rw [size_toList]; omega)] at this; exact this
        have HAll := Lib.hid ha
        clear ha HA
        go_wp2_with fail
        go_loop [4] (fun v => ∃ E : ByteArray, v = .string E ∧ E.size ≤ s.size ∧ Num.strip s.data.toList = Num.strip E.data.toList) (fun v => strSz v)
        case atStart => exact ⟨s, rfl, Nat.le_refl _, rfl⟩
        case round =>
          obtain ⟨E, rfl, hEs, hE⟩ := hrel
          have HE := Lib.hid hE
          clear hE
          by_cases he : 0 < E.size
          · by_cases hz : E[0]'he = 48
            · have hzb : (((E[0]'he).toNat : Int) == 48) = true := by rw [hz]; rfl
              have H := Lib.hid (HE.out.trans (strip_at_zero he hz).symm)
              have hsz : (E.extract 1 E.size).size = E.size - 1 := by simp
              have HSZ := Lib.hid hsz
              clear hz hsz
              go_wp2
              go_round
              case rel => exact ⟨_, rfl, by rw [HSZ.out]; omega, H.out⟩
              case measure => simp [strSz]; omega
            · have hzb : (((E[0]'he).toNat : Int) == 48) = false := by
                rw [beq_eq_false_iff_ne]; intro h; exact hz (UInt8.toNat_inj.1 (by show _ = 48; omega))
              have H := Lib.hid (dig_good HC.out HAll.out (HE.out.trans (strip_at he hz)) (w := w) (b := false) (by simp))
              clear hz
              go_wp2
              go_ret2
              exact H.out
          · have H := Lib.hid (dig_good HC.out HAll.out (HE.out.trans (strip_empty (by omega))) (w := w) (b := false) (by simp [show E.size = 0 by omega]))
            go_wp2
            go_ret2
            exact H.out

end Go.Proofs.YthhihdihkddakaaGreatDoor

/- The reference implementation of layer 1: Canonical, Neg: walks. -/

namespace Go.Proofs.YthhihdihkddakaaGreatDoor
open Go.RowKit

theorem cS_minus {s : ByteArray} (h : Num.sneg s.data.toList = true) : (ByteArray.mk #[45]) ++ (ByteArray.mk (Num.sdig s.data.toList).toArray) = cS (vS s) := by
  rw [minus_append]
  unfold cS vS
  rw [← Num.joined_val, h]
  unfold Num.joined
  have h2 := Num.sneg_mag h
  have : (Num.sdig s.data.toList).isEmpty = false := by
    rw [List.isEmpty_eq_false_iff]; intro e; unfold Num.mag at h2; rw [e] at h2; simp [Num.num] at h2
  rw [this]; rfl
theorem cS_plus {s : ByteArray} (h : Num.sneg s.data.toList = false) : (ByteArray.mk (Num.sdig s.data.toList).toArray) = cS (vS s) := by
  unfold cS vS
  rw [← Num.joined_val, h]; rfl
theorem cSn_minus {s : ByteArray} (h : Num.sneg s.data.toList = true) : (ByteArray.mk (Num.sdig s.data.toList).toArray) = cS (-(vS s)) := by
  unfold cS vS
  rw [← Num.joined_neg, ← Num.sneg_val, ← Num.sdig_val, h]; rfl
theorem cSn_zero {s : ByteArray} (h : Num.sdig s.data.toList = []) : (ByteArray.mk (Num.sdig s.data.toList).toArray) = cS (-(vS s)) := by
  unfold cS vS
  rw [← Num.joined_neg, ← Num.sdig_val, h]
  unfold Num.joined; simp
theorem cSn_plus {s : ByteArray} (h : Num.sneg s.data.toList = false) (h0 : (Num.sdig s.data.toList).isEmpty = false) : (ByteArray.mk #[45]) ++ (ByteArray.mk (Num.sdig s.data.toList).toArray) = cS (-(vS s)) := by
  rw [minus_append]
  unfold cS vS
  rw [← Num.joined_neg, ← Num.sneg_val, ← Num.sdig_val, h]
  unfold Num.joined; rw [h0]; rfl

set_option maxHeartbeats 400000 in
theorem rCanonical_any (s : ByteArray) (w : World) (hs : s.size ≤ 4294967296) :
    Calls Tryz.prog 125 #[.string s] w fun e w' => e = .returned (.string (cS (vS s))) ∧ w = w' := by
  have hl := sdig_lim hs
  have hm := lim_max hs
  cases hn : Num.sneg s.data.toList
  · have H := Lib.hid (cS_plus hn)
    go_enter Tryz.func125, Tryz.ntmps125
    go_wp2_with fail
    refine (digits_any s w hm).mono ?_
    rintro e w' ⟨rfl, rfl⟩
    rw [hn]
    go_wp2_with fail
    go_ret
    exact ⟨by rw [H.out]; rfl, rfl⟩
  · have H := Lib.hid (cS_minus hn)
    have h0 : ¬ 9223372036854775807 < 1 + (Num.sdig s.data.toList).length := by omega
    go_enter Tryz.func125, Tryz.ntmps125
    go_wp2_with fail
    refine (digits_any s w hm).mono ?_
    rintro e w' ⟨rfl, rfl⟩
    rw [hn]
    go_wp2_with fail
    go_ret
    exact ⟨by rw [H.out]; rfl, rfl⟩

set_option maxHeartbeats 400000 in
theorem rNeg_any (s : ByteArray) (w : World) (hs : s.size ≤ 4294967296) :
    Calls Tryz.prog 61 #[.string s] w fun e w' => e = .returned (.string (cS (- vS s))) ∧ w = w' := by
  have hl := sdig_lim hs
  have hm := lim_max hs
  cases hn : Num.sneg s.data.toList
  · cases h0 : (Num.sdig s.data.toList).isEmpty
    · have H := Lib.hid (cSn_plus hn h0)
      have hz : ¬ 9223372036854775807 < 1 + (Num.sdig s.data.toList).length := by omega
      have h1 : Num.sdig s.data.toList ≠ [] := by simpa using h0
      have hq : (ByteArray.mk (Num.sdig s.data.toList).toArray).toList.isEmpty = false := by rw [Lib.toList_data]; simpa using h1
      have hq2 : ((ByteArray.mk (Num.sdig s.data.toList).toArray).toList == []) = false := by rw [Lib.toList_data]; simpa using h1
      go_enter Tryz.func61, Tryz.ntmps61
      go_wp2_with fail
      refine (digits_any s w hm).mono ?_
      rintro e w' ⟨rfl, rfl⟩
      rw [hn]
      go_wp2_with fail
      go_ret
      exact ⟨by rw [H.out]; rfl, rfl⟩
    · have h1 : Num.sdig s.data.toList = [] := by simpa using h0
      have H := Lib.hid (cSn_zero h1)
      have hq : (ByteArray.mk (Num.sdig s.data.toList).toArray).toList.isEmpty = true := by rw [Lib.toList_data]; simpa using h1
      have hq2 : ((ByteArray.mk (Num.sdig s.data.toList).toArray).toList == []) = true := by rw [Lib.toList_data]; simpa using h1
      clear h1
      go_enter Tryz.func61, Tryz.ntmps61
      go_wp2_with fail
      refine (digits_any s w hm).mono ?_
      rintro e w' ⟨rfl, rfl⟩
      rw [hn]
      go_wp2_with fail
      go_ret
      exact ⟨by rw [H.out]; rfl, rfl⟩
  · have H := Lib.hid (cSn_minus hn)
    go_enter Tryz.func61, Tryz.ntmps61
    go_wp2_with fail
    refine (digits_any s w hm).mono ?_
    rintro e w' ⟨rfl, rfl⟩
    rw [hn]
    go_wp2_with fail
    go_ret
    exact ⟨by rw [H.out]; rfl, rfl⟩

end Go.Proofs.YthhihdihkddakaaGreatDoor

/- The reference implementation of layer 1: Check, Print, Parse: walks. -/
namespace Go.Proofs.YthhihdihkddakaaGreatDoor
open Go.RowKit

set_option maxHeartbeats 400000 in
theorem rCheck_any (s : ByteArray) (w : World) (hs : s.size ≤ 4294967296) :
    Calls Tryz.prog 72 #[.string s] w fun e w' => e = .returned (.int .i64 (chk s)) ∧ w = w' := by
  have hb := beq_toList (cS (vS s)) s
  cases hc : isCan s
  · have H := Lib.hid (show chk s = 1 by unfold chk; rw [hc]; rfl)
    unfold isCan at hc
    rw [hc] at hb
    clear hc
    go_enter Tryz.func72, Tryz.ntmps72
    go_wp2_with (first | (go_at_call 125; refine (rCanonical_any _ _ hs).mono ?_; rintro e w' ⟨rfl, rfl⟩))
    go_ret
    exact ⟨by rw [H.out]; rfl, rfl⟩
  · have H := Lib.hid (show chk s = 0 by unfold chk; rw [hc]; rfl)
    unfold isCan at hc
    rw [hc] at hb
    clear hc
    go_enter Tryz.func72, Tryz.ntmps72
    go_wp2_with (first | (go_at_call 125; refine (rCanonical_any _ _ hs).mono ?_; rintro e w' ⟨rfl, rfl⟩))
    go_ret
    exact ⟨by rw [H.out]; rfl, rfl⟩

theorem isText_ne {s : ByteArray} (h : isText s = true) : s.toList.isEmpty = false := by
  rw [Bool.eq_false_iff]; intro e
  rw [List.isEmpty_iff, Lib.toList_data] at e
  have hs : s = ⟨#[]⟩ := by apply ByteArray.ext; exact Array.toList_inj.1 (by rw [e])
  subst hs
  revert h; decide +kernel

end Go.Proofs.YthhihdihkddakaaGreatDoor

/- The reference implementation of layer 1: short, Small, Of, Compare: walks. -/
namespace Go.Proofs.YthhihdihkddakaaGreatDoor
open Go.RowKit

theorem num_take_le (d : List UInt8) (k : Nat) : Num.num (d.take k) ≤ Num.num d := by
  conv => rhs; rw [← List.take_append_drop k d]
  rw [Num.num_append]
  have := Nat.le_mul_of_pos_right (Num.num (d.take k)) (Nat.pow_pos (n := (d.drop k).length) (show 0 < 10 by decide))
  omega
theorem num_take_succ {D : ByteArray} {k : Nat} (h : k < D.size) : Num.num (D.data.toList.take (k + 1)) = 10 * Num.num (D.data.toList.take k) + Num.dv (D[k]'h) := by
  have hl : k < D.data.toList.length := by rw [size_toList]; exact h
  rw [List.take_succ_eq_append_getElem hl, byte_at D k h hl, Num.num_snoc]
theorem dig_at {D : ByteArray} {k : Nat} (h : k < D.size) (ha : D.data.toList.all Num.isDig = true) : 48 ≤ (D[k]'h).toNat ∧ (D[k]'h).toNat ≤ 57 := by
  have hl : k < D.data.toList.length := by rw [size_toList]; exact h
  have := List.all_eq_true.1 ha _ (List.getElem_mem hl)
  rw [byte_at D k h hl] at this
  exact (Num.isDig_iff _).1 this

/-- the digits of a string, as Go's string -/
theorem dig_str (s : ByteArray) : ∃ D : ByteArray, D = ⟨(Num.sdig s.data.toList).toArray⟩ ∧ D.data.toList = Num.sdig s.data.toList ∧ D.data.toList.all Num.isDig = true ∧ D.size ≤ s.size := by
  refine ⟨_, rfl, rfl, (Num.Plain.sdig _).1, ?_⟩
  have := Num.sdig_length s.data.toList
  rw [size_toList] at this
  rw [← size_toList]; exact this

/-- what short returns -/
def shortV (s : ByteArray) : Value := if (Num.sdig s.data.toList).length ≤ 17 then .tuple #[.int .i64 (vS s), .bool true] else .tuple #[.int .i64 0, .bool false]

set_option maxHeartbeats 1000000 in
theorem short_yes (s : ByteArray) (w : World) (hs : s.size ≤ 4294967296) (h17 : (Num.sdig s.data.toList).length ≤ 17) :
    Calls Tryz.prog 112 #[.string s] w fun e w' => e = .returned (.tuple #[.int .i64 (vS s), .bool true]) ∧ w = w' := by
  have hm := lim_max hs
  obtain ⟨D, hD, hDl, hall, hDs⟩ := dig_str s
  have hD17 : D.size ≤ 17 := by rw [← size_toList, hDl]; exact h17
  have hlt := Num.num_lt _ hall
  rw [size_toList] at hlt
  have hlt2 : Num.num D.data.toList < 100000000000000000 := by
    have := Nat.pow_le_pow_right (show 1 ≤ 10 by decide) hD17
    omega
  have hv : vS s = if Num.sneg s.data.toList then -(Num.num D.data.toList : Int) else Num.num D.data.toList := by
    rw [hDl]; rfl
  have HV := Lib.hid hv
  have HD := Lib.hid hD
  have HA := Lib.hid hall
  have HLT := Lib.hid hlt2
  clear hv hD hall hlt hlt2 hDl h17
  obtain ⟨ng, hng⟩ : ∃ ng, Num.sneg s.data.toList = ng := ⟨_, rfl⟩
  go_enter Tryz.func112, Tryz.ntmps112
  go_wp2_with fail
  refine (digits_any s w hm).mono ?_
  rintro e w' ⟨rfl, rfl⟩
  rw [← HD.out, hng]
  have HNG := Lib.hid hng
  clear hng
  go_wp2_with fail
  go_loop [6, 7] (fun nv iv => ∃ k : Nat, k ≤ D.size ∧ iv = .int .i64 k ∧ nv = .int .i64 (Num.num (D.data.toList.take k) : Nat)) (fun _ iv => D.size - (intOf iv).toNat)
  case atStart => exact ⟨0, Nat.zero_le _, rfl, rfl⟩
  case round =>
    obtain ⟨k, hk, rfl, rfl⟩ := hrel
    have hb := num_take_le D.data.toList k
    have hb2 : Num.num (D.data.toList.take k) < 100000000000000000 := by have := HLT.out; omega
    obtain ⟨x, hx⟩ : ∃ x, x = Num.num (D.data.toList.take k) := ⟨_, rfl⟩
    rw [← hx] at hb2 ⊢
    clear hb
    by_cases hlt : k < D.size
    · have hd := dig_at hlt HA.out
      have hsu := num_take_succ hlt
      rw [← hx] at hsu
      have hn : ((Num.num (D.data.toList.take (k + 1)) : Nat) : Int) = 10 * (x : Int) + (((D[k]'hlt).toNat : Int) - 48) := by rw [hsu]; unfold Num.dv; omega
      have HN := Lib.hid hn
      have hd1 : (48 : Int) ≤ ((D[k]'hlt).toNat : Int) := by omega
      have hd2 : ((D[k]'hlt).toNat : Int) ≤ 57 := by omega
      clear hn hsu hx hd
      go_wp2_with fail
      go_round
      case rel => exact ⟨k + 1, by omega, by go_num, by rw [HN.out]⟩
      case measure => simp [intOf]; omega
    · have hx2 : x = Num.num D.data.toList := by rw [hx, List.take_of_length_le (by rw [size_toList]; omega)]
      have HX := Lib.hid hx2
      clear hx hx2
      cases ng
      · have hv : vS s = (x : Int) := by have := HV.out; rw [HNG.out] at this; rw [this, HX.out]; rfl
        have H := Lib.hid hv
        clear hv
        go_wp2_with fail
        go_ret2
        exact ⟨by rw [H.out]; rfl, rfl⟩
      · have hv : vS s = -(x : Int) := by have := HV.out; rw [HNG.out] at this; rw [this, HX.out]; rfl
        have H := Lib.hid hv
        clear hv
        go_wp2_with fail
        go_ret2
        exact ⟨by rw [H.out]; rfl, rfl⟩

set_option maxHeartbeats 1000000 in
theorem short_no (s : ByteArray) (w : World) (hs : s.size ≤ 4294967296) (h17 : 17 < (Num.sdig s.data.toList).length) :
    Calls Tryz.prog 112 #[.string s] w fun e w' => e = .returned (.tuple #[.int .i64 0, .bool false]) ∧ w = w' := by
  have hm := lim_max hs
  go_enter Tryz.func112, Tryz.ntmps112
  go_wp2_with fail
  refine (digits_any s w hm).mono ?_
  rintro e w' ⟨rfl, rfl⟩
  go_wp2_with fail
  go_ret2
  exact ⟨rfl, rfl⟩

theorem short_any (s : ByteArray) (w : World) (hs : s.size ≤ 4294967296) :
    Calls Tryz.prog 112 #[.string s] w fun e w' => e = .returned (shortV s) ∧ w = w' := by
  unfold shortV
  by_cases h : (Num.sdig s.data.toList).length ≤ 17
  · rw [if_pos h]; exact short_yes s w hs h
  · rw [if_neg h]; exact short_no s w hs (by omega)

end Go.Proofs.YthhihdihkddakaaGreatDoor

/- The reference implementation of layer 1: Of: the walk. -/
namespace Go.Proofs.YthhihdihkddakaaGreatDoor
open Go.RowKit

theorem digs_step {M : Nat} (h : M ≠ 0) : Num.digs M = Num.digs (M / 10) ++ [UInt8.ofNat (48 + M % 10)] := by
  unfold Num.digs
  rw [if_neg h]
  by_cases h1 : M < 10
  · rw [Lib.decDigits, dif_pos h1, if_pos (by omega), Nat.mod_eq_of_lt h1]; rfl
  · rw [Lib.decDigits, dif_neg h1, if_neg (by omega)]

theorem enc_low (r : Nat) (h : r < 128) : Utf8.encode (r : Int) = ⟨#[UInt8.ofNat r]⟩ := by
  have v : Utf8.valid (r : Int) = true := by simp [Utf8.valid]; omega
  simp [Utf8.encode, v, h]
/-- the text of a digit -/
theorem enc_digit (x : Nat) (h : x < 10) : Utf8.encode (48 + (x : Int)) = ⟨#[UInt8.ofNat (48 + x)]⟩ := by
  rw [show (48 : Int) + (x : Int) = ((48 + x : Nat) : Int) by omega, enc_low _ (by omega)]
theorem one_append (c : UInt8) (d : List UInt8) : (ByteArray.mk #[c]) ++ (ByteArray.mk d.toArray) = ⟨(c :: d).toArray⟩ := by
  apply ByteArray.ext
  simp [ByteArray.data_append]

/-- the digits that are written so far: those of N are those of M, and these -/
def OfRel (N M : Nat) (t : List UInt8) : Prop := Num.digs M ++ t = Num.digs N ∧ t.length ≤ 20

theorem digs_len {N : Nat} (h : N ≤ 9223372036854775808) : (Num.digs N).length ≤ 20 := by
  have h1 := canon_length_le (z := (N : Int)) (k := 19) (by simp; omega)
  have h2 : Num.canon (N : Int) = Num.digs N := by unfold Num.canon; rw [if_neg (by omega)]; simp
  rw [h2] at h1; exact h1
theorem OfRel.start {N : Nat} : OfRel N N [] := ⟨by simp, by simp⟩
theorem OfRel.step {N M : Nat} {t : List UInt8} (hN : N ≤ 9223372036854775808) (h : OfRel N M t) (h0 : M ≠ 0) : OfRel N (M / 10) (UInt8.ofNat (48 + M % 10) :: t) := by
  have h1 := h.1
  rw [digs_step h0, List.append_assoc] at h1
  refine ⟨h1, ?_⟩
  have := congrArg List.length h1
  have h2 := digs_len hN
  simp at this
  simp; omega
theorem OfRel.done {N : Nat} {t : List UInt8} (h : OfRel N 0 t) : t = Num.digs N := by
  have := h.1
  rw [show Num.digs 0 = [] from rfl] at this
  simpa using this
theorem cS_of_pos {N : Nat} : (ByteArray.mk (Num.digs N).toArray) = cS (N : Int) := by
  unfold cS Num.canon; rw [if_neg (by omega)]; simp
theorem cS_of_neg {N : Nat} (h : N ≠ 0) : (ByteArray.mk #[45]) ++ (ByteArray.mk (Num.digs N).toArray) = cS (-(N : Int)) := by
  rw [minus_append]; unfold cS Num.canon; rw [if_pos (by omega)]; simp
theorem rem_neg (M : Nat) : (-(M : Int)).tmod 10 = -((M % 10 : Nat) : Int) := by
  rw [Int.neg_tmod, Int.tmod_eq_emod_of_nonneg (by omega)]; omega
theorem quo_neg (M : Nat) : (-(M : Int)).tdiv 10 = -((M / 10 : Nat) : Int) := by
  rw [Int.neg_tdiv, Int.tdiv_eq_ediv_of_nonneg (by omega)]; omega

set_option maxRecDepth 100000 in
set_option maxHeartbeats 1000000 in
theorem rOf_zero (w : World) : Calls Tryz.prog 113 #[.int .i64 0] w fun e w' => e = .returned (.string (cS 0)) ∧ w = w' := by
  go_enter Tryz.func113, Tryz.ntmps113
  go_wp2
  go_ret
  exact ⟨rfl, rfl⟩

set_option maxRecDepth 100000 in
set_option maxHeartbeats 1000000 in
theorem rOf_pos (N : Int) (w : World) (h0 : 0 < N) (h1 : N ≤ 9223372036854775807) :
    Calls Tryz.prog 113 #[.int .i64 N] w fun e w' => e = .returned (.string (cS N)) ∧ w = w' := by
  have hz : (N == 0) = false := by rw [beq_eq_false_iff_ne]; omega
  have hb0 : ¬ N < 0 := by omega
  go_enter Tryz.func113, Tryz.ntmps113
  go_wp2_with fail
  go_loop [3, 4] (fun tv mv => ∃ (m : Int) (t : List UInt8), 0 ≤ m ∧ m ≤ N ∧ mv = .int .i64 m ∧ tv = .string ⟨t.toArray⟩ ∧ OfRel N.toNat m.toNat t) (fun _ mv => (intOf mv).toNat)
  case atStart => exact ⟨N, [], by omega, Int.le_refl _, rfl, rfl, OfRel.start⟩
  case round =>
    obtain ⟨m, t, hm0, hM, rfl, rfl, hr⟩ := hrel
    have htl := hr.2
    have HR := Lib.hid hr
    clear hr
    by_cases hz : m = 0
    · subst hz
      have H := Lib.hid (show (ByteArray.mk t.toArray) = cS N by
        rw [show t = Num.digs N.toNat from HR.out.done, cS_of_pos]
        rw [show ((N.toNat : Nat) : Int) = N by omega])
      clear HR
      go_wp2_with fail
      go_ret
      exact ⟨by rw [← H.out]; rfl, rfl⟩
    · have hb2 : (m != 0) = true := by rw [bne_iff_ne]; omega
      have hs := HR.out.step (by omega) (by omega)
      obtain ⟨d, hd⟩ : ∃ d, d = m.toNat % 10 := ⟨_, rfl⟩
      rw [← hd] at hs
      have hE := enc_digit d (by omega)
      obtain ⟨c, hc⟩ : ∃ c, c = UInt8.ofNat (48 + d) := ⟨_, rfl⟩
      rw [← hc] at hs hE
      obtain ⟨z, hzz⟩ : ∃ z : Int, z = (d : Int) := ⟨_, rfl⟩
      rw [← hzz] at hE
      have hmod : m % 10 = z := by omega
      have hz0 : 0 ≤ z := by omega
      have hz9 : z ≤ 9 := by omega
      have hdiv : m.toNat / 10 = (m / 10).toNat := by omega
      rw [hdiv] at hs
      have HS := Lib.hid hs
      have hmp : 0 < m := by omega
      clear hz hs hd hc hzz hdiv
      have hmq : m.tmod 10 = z := by rw [Int.tmod_eq_emod_of_nonneg hm0]; exact hmod
      go_wp2_with fail
      go_round
      case rel => exact ⟨m / 10, _, by omega, by omega, by go_num, by rw [← one_append]; rfl, HS.out⟩
      case measure => simp [intOf]; omega

set_option maxRecDepth 100000 in
set_option maxHeartbeats 1000000 in
theorem rOf_neg (N : Int) (w : World) (h0 : 0 < N) (h1 : N ≤ 9223372036854775808) :
    Calls Tryz.prog 113 #[.int .i64 (-N)] w fun e w' => e = .returned (.string (cS (-N))) ∧ w = w' := by
  have hz : (-N == 0) = false := by rw [beq_eq_false_iff_ne]; omega
  have hb0 : -N < 0 := by omega
  go_enter Tryz.func113, Tryz.ntmps113
  go_wp2_with fail
  go_loop [3, 4] (fun tv mv => ∃ (m : Int) (t : List UInt8), 0 ≤ m ∧ m ≤ N ∧ mv = .int .i64 (-m) ∧ tv = .string ⟨t.toArray⟩ ∧ OfRel N.toNat m.toNat t) (fun _ mv => (-(intOf mv)).toNat)
  case atStart => exact ⟨N, [], by omega, Int.le_refl _, rfl, rfl, OfRel.start⟩
  case round =>
    obtain ⟨m, t, hm0, hM, rfl, rfl, hr⟩ := hrel
    have htl := hr.2
    have HR := Lib.hid hr
    clear hr
    by_cases hz : m = 0
    · subst hz
      have H := Lib.hid (show (ByteArray.mk #[45]) ++ (ByteArray.mk t.toArray) = cS (-N) by
        rw [show t = Num.digs N.toNat from HR.out.done, cS_of_neg (by omega)]
        rw [show ((N.toNat : Nat) : Int) = N by omega])
      clear HR
      go_wp2_with fail
      go_ret
      exact ⟨by rw [← H.out]; rfl, rfl⟩
    · have hb2 : ((-m) != 0) = true := by rw [bne_iff_ne]; omega
      have hs := HR.out.step (by omega) (by omega)
      obtain ⟨d, hd⟩ : ∃ d, d = m.toNat % 10 := ⟨_, rfl⟩
      rw [← hd] at hs
      have hE := enc_digit d (by omega)
      obtain ⟨c, hc⟩ : ∃ c, c = UInt8.ofNat (48 + d) := ⟨_, rfl⟩
      rw [← hc] at hs hE
      obtain ⟨z, hzz⟩ : ∃ z : Int, z = (d : Int) := ⟨_, rfl⟩
      rw [← hzz] at hE
      have hmod : m % 10 = z := by omega
      have hz0 : 0 ≤ z := by omega
      have hz9 : z ≤ 9 := by omega
      have hdiv : m.toNat / 10 = (m / 10).toNat := by omega
      rw [hdiv] at hs
      have HS := Lib.hid hs
      have hmp : 0 < m := by omega
      clear hz hs hd hc hzz hdiv
      have hmq : (-m).tmod 10 = -z := by rw [Int.neg_tmod, Int.tmod_eq_emod_of_nonneg hm0, hmod]
      have hmd : (-m).tdiv 10 = -(m / 10) := by rw [Int.neg_tdiv, Int.tdiv_eq_ediv_of_nonneg hm0]
      by_cases hzz : z = 0
      · subst hzz
        have hmq0 : (-m).tmod 10 = 0 := by rw [hmq]; rfl
        have hE0 : Utf8.encode 48 = ⟨#[c]⟩ := by rw [← hE]; rfl
        clear hmq hmod hE
        go_wp2_with fail
        go_round
        case rel => exact ⟨m / 10, _, by omega, by omega, by go_num, by rw [← one_append]; rfl, HS.out⟩
        case measure => simp [intOf]; omega
      · have hzn : -z < 0 := by omega
        go_wp2_with fail
        go_round
        case rel => exact ⟨m / 10, _, by omega, by omega, by go_num, by rw [← one_append]; rfl, HS.out⟩
        case measure => simp [intOf]; omega

/-- Of, at every int -/
theorem rOf_any (n : Int) (w : World) (h0 : -9223372036854775808 ≤ n) (h1 : n ≤ 9223372036854775807) :
    Calls Tryz.prog 113 #[.int .i64 n] w fun e w' => e = .returned (.string (cS n)) ∧ w = w' := by
  by_cases hz : n = 0
  · subst hz; exact rOf_zero w
  · by_cases hp : 0 < n
    · exact rOf_pos n w hp h1
    · obtain ⟨m, rfl⟩ : ∃ m, n = -m := ⟨-n, by omega⟩
      exact rOf_neg m w (by omega) (by omega)

end Go.Proofs.YthhihdihkddakaaGreatDoor

/- The order of digits of one length. -/
namespace Go.Proofs.YthhihdihkddakaaGreatDoor
open Go.RowKit

theorem bytesLess_num : ∀ (x y : List UInt8), x.all Num.isDig = true → y.all Num.isDig = true → x.length = y.length → Op.bytesLess x y = decide (Num.num x < Num.num y)
  | [], [], _, _, _ => by simp [Op.bytesLess]
  | [], _ :: _, _, _, h => by simp at h
  | _ :: _, [], _, _, h => by simp at h
  | a :: x, b :: y, hx, hy, h => by
    simp only [List.all_cons, Bool.and_eq_true] at hx hy
    have ha := (Num.isDig_iff a).1 hx.1
    have hb := (Num.isDig_iff b).1 hy.1
    have hl : x.length = y.length := by simpa using h
    have ih := bytesLess_num x y hx.2 hy.2 hl
    have h1 := Num.num_lt x hx.2
    have h2 := Num.num_lt y hy.2
    rw [Num.num_cons, Num.num_cons]
    unfold Op.bytesLess
    rw [ih, Bool.eq_iff_iff]
    simp only [Bool.or_eq_true, Bool.and_eq_true, decide_eq_true_iff, beq_iff_eq]
    rw [hl] at h1 ⊢
    rw [UInt8.lt_iff_toNat_lt]
    generalize 10 ^ y.length = p at *
    unfold Num.dv
    by_cases c1 : a.toNat < b.toNat
    · have := Nat.mul_le_mul_right p (show a.toNat - 48 + 1 ≤ b.toNat - 48 by omega)
      rw [Nat.add_mul] at this
      exact ⟨fun _ => by omega, fun _ => .inl c1⟩
    · by_cases c2 : a = b
      · subst c2; simp
      · have c3 : b.toNat < a.toNat := by
          have : a.toNat ≠ b.toNat := fun e => c2 (UInt8.toNat_inj.1 e)
          omega
        have := Nat.mul_le_mul_right p (show b.toNat - 48 + 1 ≤ a.toNat - 48 by omega)
        rw [Nat.add_mul] at this
        exact ⟨fun h => by rcases h with h | h; omega; exact absurd h.1 c2, fun h => by omega⟩

theorem num_eq_iff : ∀ (x y : List UInt8), x.all Num.isDig = true → y.all Num.isDig = true → x.length = y.length → Num.num x = Num.num y → x = y
  | [], [], _, _, _, _ => rfl
  | [], _ :: _, _, _, h, _ => by simp at h
  | _ :: _, [], _, _, h, _ => by simp at h
  | a :: x, b :: y, hx, hy, h, e => by
    simp only [List.all_cons, Bool.and_eq_true] at hx hy
    have ha := (Num.isDig_iff a).1 hx.1
    have hb := (Num.isDig_iff b).1 hy.1
    have hl : x.length = y.length := by simpa using h
    have h1 := Num.num_lt x hx.2
    have h2 := Num.num_lt y hy.2
    rw [Num.num_cons, Num.num_cons] at e
    have ih := num_eq_iff x y hx.2 hy.2 hl
    rw [hl] at h1 e
    generalize 10 ^ y.length = p at *
    have e1 : a = b := by
      apply UInt8.toNat_inj.1
      unfold Num.dv at e
      by_cases c1 : a.toNat < b.toNat
      · have := Nat.mul_le_mul_right p (show a.toNat - 48 + 1 ≤ b.toNat - 48 by omega)
        rw [Nat.add_mul] at this; omega
      · by_cases c2 : b.toNat < a.toNat
        · have := Nat.mul_le_mul_right p (show b.toNat - 48 + 1 ≤ a.toNat - 48 by omega)
          rw [Nat.add_mul] at this; omega
        · omega
    subst e1
    rw [ih (by omega)]

theorem beq_num {x y : List UInt8} (hx : x.all Num.isDig = true) (hy : y.all Num.isDig = true) (h : x.length = y.length) : (x == y) = decide (Num.num x = Num.num y) := by
  rw [Bool.eq_iff_iff, beq_iff_eq, decide_eq_true_iff]
  exact ⟨fun e => by rw [e], num_eq_iff x y hx hy h⟩

end Go.Proofs.YthhihdihkddakaaGreatDoor

/- The reference implementation of layer 1: Small: the walk. -/
namespace Go.Proofs.YthhihdihkddakaaGreatDoor
open Go.RowKit

/-- the greatest text of an absolute value that fits -/
def most (ng : Bool) : ByteArray := if ng then ⟨#[57, 50, 50, 51, 51, 55, 50, 48, 51, 54, 56, 53, 52, 55, 55, 53, 56, 48, 56]⟩ else ⟨#[57, 50, 50, 51, 51, 55, 50, 48, 51, 54, 56, 53, 52, 55, 55, 53, 56, 48, 55]⟩
def mostN (ng : Bool) : Nat := if ng then 9223372036854775808 else 9223372036854775807
theorem most_num (ng : Bool) : Num.num (most ng).data.toList = mostN ng := by cases ng <;> decide +kernel
theorem most_all (ng : Bool) : (most ng).data.toList.all Num.isDig = true := by cases ng <;> decide +kernel
theorem most_len (ng : Bool) : (most ng).data.toList.length = 19 := by cases ng <;> rfl

theorem fits_iff {s : ByteArray} {ng : Bool} (h : Num.sneg s.data.toList = ng) : fits (vS s) = decide (Num.num (Num.sdig s.data.toList) ≤ mostN ng) := by
  unfold fits
  rw [Bool.eq_iff_iff, decide_eq_true_iff, decide_eq_true_iff]
  cases ng
  · have := vS_pos h; unfold mostN; simp; omega
  · have := vS_neg h; unfold mostN; simp; omega

/-- more than 19 digits are more than fits -/
theorem plain_ge {d : List UInt8} (hp : Num.Plain d) {k : Nat} (h : k < d.length) : 10 ^ k ≤ Num.num d := by
  cases d with
  | nil => simp at h
  | cons c r =>
    have hc := hp.1
    simp only [List.all_cons, Bool.and_eq_true] at hc
    have h2 := Num.num_ge c r hc.1 (by have := hp.2; simpa using this)
    have := Nat.pow_le_pow_right (show 1 ≤ 10 by decide) (show k ≤ r.length by simp at h; omega)
    omega

/-- what Small returns -/
def SmallPost (w : World) (z : Int) (e : Ending) (w' : World) : Prop := e = .returned (if fits z then .tuple #[.int .i64 z, .bool true] else .tuple #[.int .i64 0, .bool false]) ∧ w = w'
theorem small_some {w : World} {z : Int} (h : fits z = true) : SmallPost w z (.returned (.tuple #[.int .i64 z, .bool true])) w := by unfold SmallPost; rw [h]; exact ⟨rfl, rfl⟩
theorem small_none {w : World} {z : Int} (h : fits z = false) : SmallPost w z (.returned (.tuple #[.int .i64 0, .bool false])) w := by unfold SmallPost; rw [h]; exact ⟨rfl, rfl⟩

set_option maxRecDepth 100000 in
set_option maxHeartbeats 1000000 in
theorem rSmall_false (s : ByteArray) (w : World) (hs : s.size ≤ 4294967296) (hng : Num.sneg s.data.toList = false) :
    Calls Tryz.prog 55 #[.string s] w (SmallPost w (vS s)) := by
  have hm := lim_max hs
  have hfit := fits_iff hng
  have hp := Num.Plain.sdig s.data.toList
  obtain ⟨D, hD, hDl, hall, hDs⟩ := dig_str s
  rw [← hDl] at hfit hp
  have HV := Lib.hid (show vS s = (Num.num D.data.toList : Int) by rw [hDl]; exact (vS_pos hng).1)
  have HD := Lib.hid hD
  have HA := Lib.hid hall
  have HF := Lib.hid hfit
  have HNG := Lib.hid hng
  clear hD hall hDl hfit hng
  by_cases h19 : 19 < D.size
  · have hbig : fits (vS s) = false := by
      rw [HF.out, decide_eq_false_iff_not]
      have := plain_ge hp (show 19 < D.data.toList.length by rw [size_toList]; exact h19)
      unfold mostN; simp; omega
    have H := Lib.hid (small_none (w := w) hbig)
    clear hbig hp
    go_enter Tryz.func55, Tryz.ntmps55
    go_wp2_with fail
    refine (digits_any s w hm).mono ?_
    rintro e w' ⟨rfl, rfl⟩
    rw [← HD.out, HNG.out]
    go_wp2_with fail
    go_ret2
    exact H.out
  · by_cases hfits : Num.num D.data.toList ≤ mostN false
    · have hyes : fits (vS s) = true := by rw [HF.out]; exact decide_eq_true hfits
      have H := Lib.hid (small_some (w := w) hyes)
      clear hyes hp
      have h9 : (D.size : Int) < 19 ∨ (((D.size : Int) == 19) = true ∧ D.size = 19) := by
        by_cases h : D.size = 19
        · exact .inr ⟨by rw [h]; rfl, h⟩
        · exact .inl (by omega)
      have hcases : (((D.size : Int) == 19) = false) ∨ ((((D.size : Int) == 19) = true) ∧ Op.bytesLess D.toList [57, 50, 50, 51, 51, 55, 50, 48, 51, 54, 56, 53, 52, 55, 55, 53, 56, 48, 55] = true) ∨ ((((D.size : Int) == 19) = true) ∧ Op.bytesLess D.toList [57, 50, 50, 51, 51, 55, 50, 48, 51, 54, 56, 53, 52, 55, 55, 53, 56, 48, 55] = false ∧ (D.toList == [57, 50, 50, 51, 51, 55, 50, 48, 51, 54, 56, 53, 52, 55, 55, 53, 56, 48, 55]) = true) := by
        rcases h9 with h | ⟨h, h'⟩
        · left; rw [beq_eq_false_iff_ne]; omega
        · right
          have e1 := bytesLess_num _ _ HA.out (most_all false) (by rw [most_len, size_toList, h'])
          have e2 := beq_num HA.out (most_all false) (by rw [most_len, size_toList, h'])
          rw [most_num] at e1 e2
          rw [Lib.toList_data]
          by_cases hq : Num.num D.data.toList < mostN false
          · exact .inl ⟨h, by rw [decide_eq_true hq] at e1; exact e1⟩
          · exact .inr ⟨h, by rw [decide_eq_false hq] at e1; exact e1, by rw [decide_eq_true (by omega)] at e2; exact e2⟩
      clear h9
      have HFT := Lib.hid hfits
      clear hfits
      rcases hcases with hc | ⟨hc, hc2⟩ | ⟨hc, hc2, hc3⟩
      · go_enter Tryz.func55, Tryz.ntmps55
        go_wp2_with fail
        refine (digits_any s w hm).mono ?_
        rintro e w' ⟨rfl, rfl⟩
        rw [← HD.out, HNG.out]
        go_wp2_with fail
        clear hc
        go_loop [7, 8] (fun nv iv => ∃ k : Nat, k ≤ D.size ∧ iv = .int .i64 k ∧ nv = .int .i64 (-((Num.num (D.data.toList.take k) : Nat) : Int))) (fun _ iv => D.size - (intOf iv).toNat)
        case atStart => exact ⟨0, Nat.zero_le _, rfl, rfl⟩
        case round =>
          obtain ⟨k, hk, rfl, rfl⟩ := hrel
          have hmx : mostN false ≤ 9223372036854775808 := by unfold mostN; simp
          have hb := num_take_le D.data.toList k
          obtain ⟨x, hx⟩ : ∃ x, x = Num.num (D.data.toList.take k) := ⟨_, rfl⟩
          rw [← hx] at hb ⊢
          by_cases hlt : k < D.size
          · have hd := dig_at hlt HA.out
            have hsu := num_take_succ hlt
            have hb3 := num_take_le D.data.toList (k + 1)
            rw [← hx] at hsu
            have hb4 : 10 * x + (((D[k]'hlt).toNat) - 48) ≤ 9223372036854775808 := by have := HFT.out; rw [hsu] at hb3; unfold Num.dv at hb3; omega
            have hn : -((Num.num (D.data.toList.take (k + 1)) : Nat) : Int) = 10 * (-(x : Int)) - (((D[k]'hlt).toNat : Int) - 48) := by rw [hsu]; unfold Num.dv; omega
            have HN := Lib.hid hn
            have hd1 : (48 : Int) ≤ ((D[k]'hlt).toNat : Int) := by omega
            have hd2 : ((D[k]'hlt).toNat : Int) ≤ 57 := by omega
            have hb5 : (x : Int) ≤ 922337203685477580 := by omega
            have hb6 : -9223372036854775808 ≤ 10 * (-(x : Int)) - (((D[k]'hlt).toNat : Int) - 48) := by omega
            clear hn hsu hx hd hb hb3 hb4 hmx
            go_wp2_with fail
            go_round
            case rel => exact ⟨k + 1, by omega, by go_num, by rw [HN.out]⟩
            case measure => simp [intOf]; omega
          · have hx2 : x = Num.num D.data.toList := by rw [hx, List.take_of_length_le (by rw [size_toList]; omega)]
            have hxm : x ≤ 9223372036854775807 := by have := HFT.out; unfold mostN at this; simp at this; omega
            have HX := Lib.hid (show vS s = (x : Int) by rw [HV.out, hx2])
            clear hx hx2 hb hmx
            go_wp2_with fail
            go_ret2
            have := H.out
            rw [HX.out] at this ⊢
            exact this
      · go_enter Tryz.func55, Tryz.ntmps55
        go_wp2_with fail
        refine (digits_any s w hm).mono ?_
        rintro e w' ⟨rfl, rfl⟩
        rw [← HD.out, HNG.out]
        go_wp2_with fail
        clear hc hc2
        go_loop [7, 8] (fun nv iv => ∃ k : Nat, k ≤ D.size ∧ iv = .int .i64 k ∧ nv = .int .i64 (-((Num.num (D.data.toList.take k) : Nat) : Int))) (fun _ iv => D.size - (intOf iv).toNat)
        case atStart => exact ⟨0, Nat.zero_le _, rfl, rfl⟩
        case round =>
          obtain ⟨k, hk, rfl, rfl⟩ := hrel
          have hmx : mostN false ≤ 9223372036854775808 := by unfold mostN; simp
          have hb := num_take_le D.data.toList k
          obtain ⟨x, hx⟩ : ∃ x, x = Num.num (D.data.toList.take k) := ⟨_, rfl⟩
          rw [← hx] at hb ⊢
          by_cases hlt : k < D.size
          · have hd := dig_at hlt HA.out
            have hsu := num_take_succ hlt
            have hb3 := num_take_le D.data.toList (k + 1)
            rw [← hx] at hsu
            have hb4 : 10 * x + (((D[k]'hlt).toNat) - 48) ≤ 9223372036854775808 := by have := HFT.out; rw [hsu] at hb3; unfold Num.dv at hb3; omega
            have hn : -((Num.num (D.data.toList.take (k + 1)) : Nat) : Int) = 10 * (-(x : Int)) - (((D[k]'hlt).toNat : Int) - 48) := by rw [hsu]; unfold Num.dv; omega
            have HN := Lib.hid hn
            have hd1 : (48 : Int) ≤ ((D[k]'hlt).toNat : Int) := by omega
            have hd2 : ((D[k]'hlt).toNat : Int) ≤ 57 := by omega
            have hb5 : (x : Int) ≤ 922337203685477580 := by omega
            have hb6 : -9223372036854775808 ≤ 10 * (-(x : Int)) - (((D[k]'hlt).toNat : Int) - 48) := by omega
            clear hn hsu hx hd hb hb3 hb4 hmx
            go_wp2_with fail
            go_round
            case rel => exact ⟨k + 1, by omega, by go_num, by rw [HN.out]⟩
            case measure => simp [intOf]; omega
          · have hx2 : x = Num.num D.data.toList := by rw [hx, List.take_of_length_le (by rw [size_toList]; omega)]
            have hxm : x ≤ 9223372036854775807 := by have := HFT.out; unfold mostN at this; simp at this; omega
            have HX := Lib.hid (show vS s = (x : Int) by rw [HV.out, hx2])
            clear hx hx2 hb hmx
            go_wp2_with fail
            go_ret2
            have := H.out
            rw [HX.out] at this ⊢
            exact this
      · go_enter Tryz.func55, Tryz.ntmps55
        go_wp2_with fail
        refine (digits_any s w hm).mono ?_
        rintro e w' ⟨rfl, rfl⟩
        rw [← HD.out, HNG.out]
        go_wp2_with fail
        clear hc hc2 hc3
        go_loop [7, 8] (fun nv iv => ∃ k : Nat, k ≤ D.size ∧ iv = .int .i64 k ∧ nv = .int .i64 (-((Num.num (D.data.toList.take k) : Nat) : Int))) (fun _ iv => D.size - (intOf iv).toNat)
        case atStart => exact ⟨0, Nat.zero_le _, rfl, rfl⟩
        case round =>
          obtain ⟨k, hk, rfl, rfl⟩ := hrel
          have hmx : mostN false ≤ 9223372036854775808 := by unfold mostN; simp
          have hb := num_take_le D.data.toList k
          obtain ⟨x, hx⟩ : ∃ x, x = Num.num (D.data.toList.take k) := ⟨_, rfl⟩
          rw [← hx] at hb ⊢
          by_cases hlt : k < D.size
          · have hd := dig_at hlt HA.out
            have hsu := num_take_succ hlt
            have hb3 := num_take_le D.data.toList (k + 1)
            rw [← hx] at hsu
            have hb4 : 10 * x + (((D[k]'hlt).toNat) - 48) ≤ 9223372036854775808 := by have := HFT.out; rw [hsu] at hb3; unfold Num.dv at hb3; omega
            have hn : -((Num.num (D.data.toList.take (k + 1)) : Nat) : Int) = 10 * (-(x : Int)) - (((D[k]'hlt).toNat : Int) - 48) := by rw [hsu]; unfold Num.dv; omega
            have HN := Lib.hid hn
            have hd1 : (48 : Int) ≤ ((D[k]'hlt).toNat : Int) := by omega
            have hd2 : ((D[k]'hlt).toNat : Int) ≤ 57 := by omega
            have hb5 : (x : Int) ≤ 922337203685477580 := by omega
            have hb6 : -9223372036854775808 ≤ 10 * (-(x : Int)) - (((D[k]'hlt).toNat : Int) - 48) := by omega
            clear hn hsu hx hd hb hb3 hb4 hmx
            go_wp2_with fail
            go_round
            case rel => exact ⟨k + 1, by omega, by go_num, by rw [HN.out]⟩
            case measure => simp [intOf]; omega
          · have hx2 : x = Num.num D.data.toList := by rw [hx, List.take_of_length_le (by rw [size_toList]; omega)]
            have hxm : x ≤ 9223372036854775807 := by have := HFT.out; unfold mostN at this; simp at this; omega
            have HX := Lib.hid (show vS s = (x : Int) by rw [HV.out, hx2])
            clear hx hx2 hb hmx
            go_wp2_with fail
            go_ret2
            have := H.out
            rw [HX.out] at this ⊢
            exact this
    · have hno : fits (vS s) = false := by rw [HF.out]; exact decide_eq_false hfits
      have H := Lib.hid (small_none (w := w) hno)
      have h19' : D.size = 19 := by
        have h1 := Num.num_lt _ HA.out
        rw [size_toList] at h1
        by_cases h : D.size = 19
        · exact h
        · have h2 := Nat.pow_le_pow_right (show 1 ≤ 10 by decide) (show D.size ≤ 18 by omega)
          unfold mostN at hfits
          simp at hfits
          omega
      have hc : ((D.size : Int) == 19) = true := by rw [h19']; rfl
      have e1 := bytesLess_num _ _ HA.out (most_all false) (by rw [most_len, size_toList, h19'])
      have e2 := beq_num HA.out (most_all false) (by rw [most_len, size_toList, h19'])
      rw [most_num] at e1 e2
      have hc2 : Op.bytesLess D.toList [57, 50, 50, 51, 51, 55, 50, 48, 51, 54, 56, 53, 52, 55, 55, 53, 56, 48, 55] = false := by rw [Lib.toList_data]; rw [decide_eq_false (by omega)] at e1; exact e1
      have hc3 : (D.toList == [57, 50, 50, 51, 51, 55, 50, 48, 51, 54, 56, 53, 52, 55, 55, 53, 56, 48, 55]) = false := by rw [Lib.toList_data]; rw [decide_eq_false (by omega)] at e2; exact e2
      clear e1 e2
      clear hno hp h19' hfits
      go_enter Tryz.func55, Tryz.ntmps55
      go_wp2_with fail
      refine (digits_any s w hm).mono ?_
      rintro e w' ⟨rfl, rfl⟩
      rw [← HD.out, HNG.out]
      go_wp2_with fail
      go_ret2
      exact H.out

set_option maxRecDepth 100000 in
set_option maxHeartbeats 1000000 in
theorem rSmall_true (s : ByteArray) (w : World) (hs : s.size ≤ 4294967296) (hng : Num.sneg s.data.toList = true) :
    Calls Tryz.prog 55 #[.string s] w (SmallPost w (vS s)) := by
  have hm := lim_max hs
  have hfit := fits_iff hng
  have hp := Num.Plain.sdig s.data.toList
  obtain ⟨D, hD, hDl, hall, hDs⟩ := dig_str s
  rw [← hDl] at hfit hp
  have HV := Lib.hid (show vS s = -(Num.num D.data.toList : Int) by rw [hDl]; exact (vS_neg hng).1)
  have HD := Lib.hid hD
  have HA := Lib.hid hall
  have HF := Lib.hid hfit
  have HNG := Lib.hid hng
  clear hD hall hDl hfit hng
  by_cases h19 : 19 < D.size
  · have hbig : fits (vS s) = false := by
      rw [HF.out, decide_eq_false_iff_not]
      have := plain_ge hp (show 19 < D.data.toList.length by rw [size_toList]; exact h19)
      unfold mostN; simp; omega
    have H := Lib.hid (small_none (w := w) hbig)
    clear hbig hp
    go_enter Tryz.func55, Tryz.ntmps55
    go_wp2_with fail
    refine (digits_any s w hm).mono ?_
    rintro e w' ⟨rfl, rfl⟩
    rw [← HD.out, HNG.out]
    go_wp2_with fail
    go_ret2
    exact H.out
  · by_cases hfits : Num.num D.data.toList ≤ mostN true
    · have hyes : fits (vS s) = true := by rw [HF.out]; exact decide_eq_true hfits
      have H := Lib.hid (small_some (w := w) hyes)
      clear hyes hp
      have h9 : (D.size : Int) < 19 ∨ (((D.size : Int) == 19) = true ∧ D.size = 19) := by
        by_cases h : D.size = 19
        · exact .inr ⟨by rw [h]; rfl, h⟩
        · exact .inl (by omega)
      have hcases : (((D.size : Int) == 19) = false) ∨ ((((D.size : Int) == 19) = true) ∧ Op.bytesLess D.toList [57, 50, 50, 51, 51, 55, 50, 48, 51, 54, 56, 53, 52, 55, 55, 53, 56, 48, 56] = true) ∨ ((((D.size : Int) == 19) = true) ∧ Op.bytesLess D.toList [57, 50, 50, 51, 51, 55, 50, 48, 51, 54, 56, 53, 52, 55, 55, 53, 56, 48, 56] = false ∧ (D.toList == [57, 50, 50, 51, 51, 55, 50, 48, 51, 54, 56, 53, 52, 55, 55, 53, 56, 48, 56]) = true) := by
        rcases h9 with h | ⟨h, h'⟩
        · left; rw [beq_eq_false_iff_ne]; omega
        · right
          have e1 := bytesLess_num _ _ HA.out (most_all true) (by rw [most_len, size_toList, h'])
          have e2 := beq_num HA.out (most_all true) (by rw [most_len, size_toList, h'])
          rw [most_num] at e1 e2
          rw [Lib.toList_data]
          by_cases hq : Num.num D.data.toList < mostN true
          · exact .inl ⟨h, by rw [decide_eq_true hq] at e1; exact e1⟩
          · exact .inr ⟨h, by rw [decide_eq_false hq] at e1; exact e1, by rw [decide_eq_true (by omega)] at e2; exact e2⟩
      clear h9
      have HFT := Lib.hid hfits
      clear hfits
      rcases hcases with hc | ⟨hc, hc2⟩ | ⟨hc, hc2, hc3⟩
      · go_enter Tryz.func55, Tryz.ntmps55
        go_wp2_with fail
        refine (digits_any s w hm).mono ?_
        rintro e w' ⟨rfl, rfl⟩
        rw [← HD.out, HNG.out]
        go_wp2_with fail
        clear hc
        go_loop [7, 8] (fun nv iv => ∃ k : Nat, k ≤ D.size ∧ iv = .int .i64 k ∧ nv = .int .i64 (-((Num.num (D.data.toList.take k) : Nat) : Int))) (fun _ iv => D.size - (intOf iv).toNat)
        case atStart => exact ⟨0, Nat.zero_le _, rfl, rfl⟩
        case round =>
          obtain ⟨k, hk, rfl, rfl⟩ := hrel
          have hmx : mostN true ≤ 9223372036854775808 := by unfold mostN; simp
          have hb := num_take_le D.data.toList k
          obtain ⟨x, hx⟩ : ∃ x, x = Num.num (D.data.toList.take k) := ⟨_, rfl⟩
          rw [← hx] at hb ⊢
          by_cases hlt : k < D.size
          · have hd := dig_at hlt HA.out
            have hsu := num_take_succ hlt
            have hb3 := num_take_le D.data.toList (k + 1)
            rw [← hx] at hsu
            have hb4 : 10 * x + (((D[k]'hlt).toNat) - 48) ≤ 9223372036854775808 := by have := HFT.out; rw [hsu] at hb3; unfold Num.dv at hb3; omega
            have hn : -((Num.num (D.data.toList.take (k + 1)) : Nat) : Int) = 10 * (-(x : Int)) - (((D[k]'hlt).toNat : Int) - 48) := by rw [hsu]; unfold Num.dv; omega
            have HN := Lib.hid hn
            have hd1 : (48 : Int) ≤ ((D[k]'hlt).toNat : Int) := by omega
            have hd2 : ((D[k]'hlt).toNat : Int) ≤ 57 := by omega
            have hb5 : (x : Int) ≤ 922337203685477580 := by omega
            have hb6 : -9223372036854775808 ≤ 10 * (-(x : Int)) - (((D[k]'hlt).toNat : Int) - 48) := by omega
            clear hn hsu hx hd hb hb3 hb4 hmx
            go_wp2_with fail
            go_round
            case rel => exact ⟨k + 1, by omega, by go_num, by rw [HN.out]⟩
            case measure => simp [intOf]; omega
          · have hx2 : x = Num.num D.data.toList := by rw [hx, List.take_of_length_le (by rw [size_toList]; omega)]
            have hxm : x ≤ 9223372036854775808 := by have := HFT.out; unfold mostN at this; simp at this; omega
            have HX := Lib.hid (show vS s = -(x : Int) by rw [HV.out, hx2])
            clear hx hx2 hb hmx
            go_wp2_with fail
            go_ret2
            have := H.out
            rw [HX.out] at this ⊢
            exact this
      · go_enter Tryz.func55, Tryz.ntmps55
        go_wp2_with fail
        refine (digits_any s w hm).mono ?_
        rintro e w' ⟨rfl, rfl⟩
        rw [← HD.out, HNG.out]
        go_wp2_with fail
        clear hc hc2
        go_loop [7, 8] (fun nv iv => ∃ k : Nat, k ≤ D.size ∧ iv = .int .i64 k ∧ nv = .int .i64 (-((Num.num (D.data.toList.take k) : Nat) : Int))) (fun _ iv => D.size - (intOf iv).toNat)
        case atStart => exact ⟨0, Nat.zero_le _, rfl, rfl⟩
        case round =>
          obtain ⟨k, hk, rfl, rfl⟩ := hrel
          have hmx : mostN true ≤ 9223372036854775808 := by unfold mostN; simp
          have hb := num_take_le D.data.toList k
          obtain ⟨x, hx⟩ : ∃ x, x = Num.num (D.data.toList.take k) := ⟨_, rfl⟩
          rw [← hx] at hb ⊢
          by_cases hlt : k < D.size
          · have hd := dig_at hlt HA.out
            have hsu := num_take_succ hlt
            have hb3 := num_take_le D.data.toList (k + 1)
            rw [← hx] at hsu
            have hb4 : 10 * x + (((D[k]'hlt).toNat) - 48) ≤ 9223372036854775808 := by have := HFT.out; rw [hsu] at hb3; unfold Num.dv at hb3; omega
            have hn : -((Num.num (D.data.toList.take (k + 1)) : Nat) : Int) = 10 * (-(x : Int)) - (((D[k]'hlt).toNat : Int) - 48) := by rw [hsu]; unfold Num.dv; omega
            have HN := Lib.hid hn
            have hd1 : (48 : Int) ≤ ((D[k]'hlt).toNat : Int) := by omega
            have hd2 : ((D[k]'hlt).toNat : Int) ≤ 57 := by omega
            have hb5 : (x : Int) ≤ 922337203685477580 := by omega
            have hb6 : -9223372036854775808 ≤ 10 * (-(x : Int)) - (((D[k]'hlt).toNat : Int) - 48) := by omega
            clear hn hsu hx hd hb hb3 hb4 hmx
            go_wp2_with fail
            go_round
            case rel => exact ⟨k + 1, by omega, by go_num, by rw [HN.out]⟩
            case measure => simp [intOf]; omega
          · have hx2 : x = Num.num D.data.toList := by rw [hx, List.take_of_length_le (by rw [size_toList]; omega)]
            have hxm : x ≤ 9223372036854775808 := by have := HFT.out; unfold mostN at this; simp at this; omega
            have HX := Lib.hid (show vS s = -(x : Int) by rw [HV.out, hx2])
            clear hx hx2 hb hmx
            go_wp2_with fail
            go_ret2
            have := H.out
            rw [HX.out] at this ⊢
            exact this
      · go_enter Tryz.func55, Tryz.ntmps55
        go_wp2_with fail
        refine (digits_any s w hm).mono ?_
        rintro e w' ⟨rfl, rfl⟩
        rw [← HD.out, HNG.out]
        go_wp2_with fail
        clear hc hc2 hc3
        go_loop [7, 8] (fun nv iv => ∃ k : Nat, k ≤ D.size ∧ iv = .int .i64 k ∧ nv = .int .i64 (-((Num.num (D.data.toList.take k) : Nat) : Int))) (fun _ iv => D.size - (intOf iv).toNat)
        case atStart => exact ⟨0, Nat.zero_le _, rfl, rfl⟩
        case round =>
          obtain ⟨k, hk, rfl, rfl⟩ := hrel
          have hmx : mostN true ≤ 9223372036854775808 := by unfold mostN; simp
          have hb := num_take_le D.data.toList k
          obtain ⟨x, hx⟩ : ∃ x, x = Num.num (D.data.toList.take k) := ⟨_, rfl⟩
          rw [← hx] at hb ⊢
          by_cases hlt : k < D.size
          · have hd := dig_at hlt HA.out
            have hsu := num_take_succ hlt
            have hb3 := num_take_le D.data.toList (k + 1)
            rw [← hx] at hsu
            have hb4 : 10 * x + (((D[k]'hlt).toNat) - 48) ≤ 9223372036854775808 := by have := HFT.out; rw [hsu] at hb3; unfold Num.dv at hb3; omega
            have hn : -((Num.num (D.data.toList.take (k + 1)) : Nat) : Int) = 10 * (-(x : Int)) - (((D[k]'hlt).toNat : Int) - 48) := by rw [hsu]; unfold Num.dv; omega
            have HN := Lib.hid hn
            have hd1 : (48 : Int) ≤ ((D[k]'hlt).toNat : Int) := by omega
            have hd2 : ((D[k]'hlt).toNat : Int) ≤ 57 := by omega
            have hb5 : (x : Int) ≤ 922337203685477580 := by omega
            have hb6 : -9223372036854775808 ≤ 10 * (-(x : Int)) - (((D[k]'hlt).toNat : Int) - 48) := by omega
            clear hn hsu hx hd hb hb3 hb4 hmx
            go_wp2_with fail
            go_round
            case rel => exact ⟨k + 1, by omega, by go_num, by rw [HN.out]⟩
            case measure => simp [intOf]; omega
          · have hx2 : x = Num.num D.data.toList := by rw [hx, List.take_of_length_le (by rw [size_toList]; omega)]
            have hxm : x ≤ 9223372036854775808 := by have := HFT.out; unfold mostN at this; simp at this; omega
            have HX := Lib.hid (show vS s = -(x : Int) by rw [HV.out, hx2])
            clear hx hx2 hb hmx
            go_wp2_with fail
            go_ret2
            have := H.out
            rw [HX.out] at this ⊢
            exact this
    · have hno : fits (vS s) = false := by rw [HF.out]; exact decide_eq_false hfits
      have H := Lib.hid (small_none (w := w) hno)
      have h19' : D.size = 19 := by
        have h1 := Num.num_lt _ HA.out
        rw [size_toList] at h1
        by_cases h : D.size = 19
        · exact h
        · have h2 := Nat.pow_le_pow_right (show 1 ≤ 10 by decide) (show D.size ≤ 18 by omega)
          unfold mostN at hfits
          simp at hfits
          omega
      have hc : ((D.size : Int) == 19) = true := by rw [h19']; rfl
      have e1 := bytesLess_num _ _ HA.out (most_all true) (by rw [most_len, size_toList, h19'])
      have e2 := beq_num HA.out (most_all true) (by rw [most_len, size_toList, h19'])
      rw [most_num] at e1 e2
      have hc2 : Op.bytesLess D.toList [57, 50, 50, 51, 51, 55, 50, 48, 51, 54, 56, 53, 52, 55, 55, 53, 56, 48, 56] = false := by rw [Lib.toList_data]; rw [decide_eq_false (by omega)] at e1; exact e1
      have hc3 : (D.toList == [57, 50, 50, 51, 51, 55, 50, 48, 51, 54, 56, 53, 52, 55, 55, 53, 56, 48, 56]) = false := by rw [Lib.toList_data]; rw [decide_eq_false (by omega)] at e2; exact e2
      clear e1 e2
      clear hno hp h19' hfits
      go_enter Tryz.func55, Tryz.ntmps55
      go_wp2_with fail
      refine (digits_any s w hm).mono ?_
      rintro e w' ⟨rfl, rfl⟩
      rw [← HD.out, HNG.out]
      go_wp2_with fail
      go_ret2
      exact H.out

theorem rSmall_any (s : ByteArray) (w : World) (hs : s.size ≤ 4294967296) :
    Calls Tryz.prog 55 #[.string s] w (SmallPost w (vS s)) := by
  cases h : Num.sneg s.data.toList
  · exact rSmall_false s w hs h
  · exact rSmall_true s w hs h


end Go.Proofs.YthhihdihkddakaaGreatDoor

/- The reference implementation of layer 1: trim, group, order: walks. Slices may be nil or empty. -/
namespace Go.Proofs.YthhihdihkddakaaGreatDoor
open Go.RowKit

/-- the numbers zs lie in block b from place o on: they can be read -/
structure Sr (w : World) (b o cap : Nat) (zs : List Int) : Prop where
  lt : b < w.heap.size
  le : zs.length ≤ cap
  max : cap ≤ 9223372036854775807
  lim : zs.length ≤ 1000000
  cell : ∀ i, i < zs.length → w.cell? ⟨b, o + i, none⟩ = some (.int .i64 (zs.getD i 0))

theorem Sr.below {B : Nat} {w w' : World} {b o cap : Nat} {zs : List Int} (h : Sr w b o cap zs) (hb : Below B w w') (hlt : b < B) : Sr w' b o cap zs :=
  ⟨Nat.lt_of_lt_of_le h.lt hb.size, h.le, h.max, h.lim, fun i hi => (hb.cell (p := ⟨b, o + i, none⟩) hlt).trans (h.cell i hi)⟩
theorem Sr.take {w : World} {b o cap : Nat} {zs : List Int} (h : Sr w b o cap zs) (ys : List Int) (hp : ys <+: zs) : Sr w b o cap ys :=
  ⟨h.lt, Nat.le_trans hp.length_le h.le, h.max, Nat.le_trans hp.length_le h.lim, fun i hi => by rw [h.cell i (Nat.lt_of_lt_of_le hi hp.length_le), prefix_getD hp hi]⟩
theorem Sl.sr {w : World} {b o cap : Nat} {zs : List Int} (h : Sl w b o cap zs) (hl : zs.length ≤ 1000000) : Sr w b o cap zs := ⟨h.lt, h.le, Nat.le_trans h.max (by decide), hl, h.cell⟩

/-- a slice with the address xa reads as the numbers zs; nothing is known of the address of an empty one -/
structure Rd (w : World) (xa : Option Addr) (cap : Nat) (zs : List Int) : Prop where
  lim : zs.length ≤ 1000000
  sl : 0 < zs.length → ∃ b o, xa = some ⟨b, o, none⟩ ∧ Sr w b o cap zs

theorem Rd.nil (w : World) (xa : Option Addr) (cap : Nat) : Rd w xa cap [] := ⟨by simp, fun h => by simp at h⟩
theorem Rd.below {w w' : World} {xa : Option Addr} {cap : Nat} {zs : List Int} (h : Rd w xa cap zs) (hb : Below w.heap.size w w') : Rd w' xa cap zs :=
  ⟨h.lim, fun h0 => by obtain ⟨b, o, e, hs⟩ := h.sl h0; exact ⟨b, o, e, hs.below hb hs.lt⟩⟩
theorem Rd.belowAt {B : Nat} {w w' : World} {xa : Option Addr} {cap : Nat} {zs : List Int} (h : Rd w xa cap zs) (hb : Below B w w') (hB : w.heap.size ≤ B) : Rd w' xa cap zs := h.below (hb.mono hB)
theorem Rd.drewN {w : World} {xa : Option Addr} {cap : Nat} {zs : List Int} (h : Rd w xa cap zs) (n : Nat) : Rd (w.drewN n) xa cap zs :=
  ⟨h.lim, fun h0 => by obtain ⟨b, o, e, hs⟩ := h.sl h0; exact ⟨b, o, e, ⟨hs.lt, hs.le, hs.max, hs.lim, hs.cell⟩⟩⟩
theorem Rd.setOther {w : World} {xa : Option Addr} {cap : Nat} {zs : List Int} (h : Rd w xa cap zs) {a : Addr} (hne : ∀ b o, xa = some ⟨b, o, none⟩ → b ≠ a.block) (v : Value) : Rd (w.setCell a v) xa cap zs :=
  ⟨h.lim, fun h0 => by
    obtain ⟨b, o, e, hs⟩ := h.sl h0
    exact ⟨b, o, e, by simpa [World.setCell] using hs.lt, hs.le, hs.max, hs.lim, fun i hi => (World.cell?_of_block (w := w) (a := ⟨b, o + i, none⟩) (Below.heap_setCell w a v b (hne b o e))).trans (hs.cell i hi)⟩⟩
theorem Rd.prefix {w : World} {xa : Option Addr} {cap : Nat} {zs : List Int} (h : Rd w xa cap zs) {ys : List Int} (hp : ys <+: zs) : Rd w xa cap ys :=
  ⟨Nat.le_trans hp.length_le h.lim, fun h0 => by obtain ⟨b, o, e, hs⟩ := h.sl (Nat.lt_of_lt_of_le h0 hp.length_le); exact ⟨b, o, e, hs.take ys hp⟩⟩

set_option maxHeartbeats 1000000 in
theorem rTrim_sl (w : World) (b o cap n : Nat) (zs : List Int) (hn : zs.length = n) (hz : Sr w b o cap zs) :
    Calls Tryz.prog 157 #[.slice (some ⟨b, o, none⟩) n cap] w
      fun e w' => e = .returned (.slice (some ⟨b, o, none⟩) (Num.trimmed zs).length cap) ∧ w = w' := by
  have hnc : n ≤ cap := by have := hz.le; omega
  have hmx := hz.max
  have HN := Lib.hid hn
  clear hn
  go_enter Tryz.func157, Tryz.ntmps157
  go_wp2
  go_loop [0] (fun v => ∃ k : Nat, k ≤ n ∧ v = .slice (some ⟨b, o, none⟩) k cap ∧ Num.trimmed (zs.take k) = Num.trimmed zs) (fun v => lenOf v)
  case atStart => exact ⟨n, Nat.le_refl _, rfl, by rw [List.take_of_length_le (by have := HN.out; omega)]⟩
  case round =>
    obtain ⟨k, hk, rfl, ht⟩ := hrel
    have HT := Lib.hid ht
    clear ht
    by_cases h0 : 0 < k
    · obtain ⟨j, rfl⟩ : ∃ j, k = j + 1 := ⟨k - 1, by omega⟩
      obtain ⟨x, hx⟩ : ∃ x, x = zs.getD j 0 := ⟨_, rfl⟩
      have hc : w.cell? ⟨b, o + j, none⟩ = some (.int .i64 x) := by rw [hx]; exact hz.cell j (by have := HN.out; omega)
      have HX := Lib.hid hx
      clear hx
      by_cases hx0 : x = 0
      · have hb : (x == 0) = true := by simpa using hx0
        have ht : Num.trimmed (zs.take j) = Num.trimmed zs := by
          rw [← HT.out, take_succ_getD (by have := HN.out; omega), ← HX.out, hx0, Num.trimmed_snoc_zero]
        have H := Lib.hid ht
        clear ht hx0
        go_wp2
        go_round
        case rel => exact ⟨j, by omega, rfl, H.out⟩
        case measure => simp [lenOf]
      · have hb : (x == 0) = false := by simpa using hx0
        have ht : (Num.trimmed zs).length = j + 1 := by
          rw [← HT.out, take_succ_getD (by have := HN.out; omega), ← HX.out, Num.trimmed_snoc _ hx0]
          simp; have := HN.out; omega
        have H := Lib.hid ht
        clear ht hx0
        go_wp2
        go_ret
        exact ⟨by rw [H.out]; rfl, rfl⟩
    · obtain rfl : k = 0 := by omega
      have ht : (Num.trimmed zs).length = 0 := by rw [← HT.out]; rfl
      have H := Lib.hid ht
      clear ht
      go_wp2
      go_ret
      exact ⟨by rw [H.out]; rfl, rfl⟩

set_option maxHeartbeats 1000000 in
theorem rTrim_nil (w : World) (xa : Option Addr) (cap : Nat) :
    Calls Tryz.prog 157 #[.slice xa 0 cap] w fun e w' => e = .returned (.slice xa 0 cap) ∧ w = w' := by
  go_enter Tryz.func157, Tryz.ntmps157
  go_wp2
  go_loop [0] (fun v => v = .slice xa 0 cap) (fun v => lenOf v)
  case atStart => rfl
  case round =>
    subst hrel
    go_wp2
    go_ret
    exact ⟨rfl, rfl⟩

theorem rTrim_any (w : World) (xa : Option Addr) (cap n : Nat) (zs : List Int) (hn : zs.length = n) (hz : Rd w xa cap zs) :
    Calls Tryz.prog 157 #[.slice xa n cap] w fun e w' => e = .returned (.slice xa (Num.trimmed zs).length cap) ∧ w = w' := by
  by_cases h0 : n = 0
  · subst h0
    obtain rfl : zs = [] := List.eq_nil_of_length_eq_zero hn
    exact rTrim_nil w xa cap
  · obtain ⟨b, o, rfl, hs⟩ := hz.sl (by omega)
    exact rTrim_sl w b o cap n zs hn hs

set_option maxHeartbeats 1000000 in
theorem rGroup_in (w : World) (b o cap n i : Nat) (zs : List Int) (hn : zs.length = n) (hz : Sr w b o cap zs) (hi : i < n) :
    Calls Tryz.prog 156 #[.slice (some ⟨b, o, none⟩) n cap, .int .i64 i] w fun e w' => e = .returned (.int .i64 (zs.getD i 0)) ∧ w = w' := by
  have hc := hz.cell i (by omega)
  obtain ⟨x, hx⟩ : ∃ x, x = zs.getD i 0 := ⟨_, rfl⟩
  rw [← hx] at hc ⊢
  have hnb : n ≤ 1000000 := by have := hz.lim; omega
  clear hx hn
  go_enter Tryz.func156, Tryz.ntmps156
  go_wp2
  go_ret
  exact ⟨rfl, rfl⟩

set_option maxHeartbeats 1000000 in
theorem rGroup_out (w : World) (xa : Option Addr) (cap n i : Nat) (hi : n ≤ i) :
    Calls Tryz.prog 156 #[.slice xa n cap, .int .i64 i] w fun e w' => e = .returned (.int .i64 0) ∧ w = w' := by
  have hb : ¬ i < n := by omega
  go_enter Tryz.func156, Tryz.ntmps156
  go_wp2
  go_ret
  exact ⟨rfl, rfl⟩

theorem rGroup_any (w : World) (xa : Option Addr) (cap n i : Nat) (zs : List Int) (hn : zs.length = n) (hz : Rd w xa cap zs) :
    Calls Tryz.prog 156 #[.slice xa n cap, .int .i64 i] w fun e w' => e = .returned (.int .i64 (zs.getD i 0)) ∧ w = w' := by
  by_cases hi : i < n
  · obtain ⟨b, o, rfl, hs⟩ := hz.sl (by omega)
    exact rGroup_in w b o cap n i zs hn hs hi
  · rw [show zs.getD i 0 = 0 by simp [List.getD, List.getElem?_eq_none (show zs.length ≤ i by omega)]]
    exact rGroup_out w xa cap n i (by omega)

set_option maxHeartbeats 1000000 in
theorem rOrder_ne (w : World) (xa ya : Option Addr) (cap capy n m : Nat) (hnm : n ≠ m) (z : Int) (hz : z = if n < m then -1 else 1) :
    Calls Tryz.prog 154 #[.slice xa n cap, .slice ya m capy] w fun e w' => e = .returned (.int .i64 z) ∧ w = w' := by
  have hb : ((n : Int) == (m : Int)) = false := by rw [beq_eq_false_iff_ne]; omega
  have hb2 : ((n : Int) != (m : Int)) = true := by rw [bne_iff_ne]; omega
  by_cases hlt : n < m
  · rw [if_pos hlt] at hz
    subst hz
    go_enter Tryz.func154, Tryz.ntmps154
    go_wp2
    go_ret
    exact ⟨rfl, rfl⟩
  · rw [if_neg hlt] at hz
    subst hz
    go_enter Tryz.func154, Tryz.ntmps154
    go_wp2
    go_ret
    exact ⟨rfl, rfl⟩

set_option maxHeartbeats 1000000 in
theorem rOrder_zero (w : World) (xa ya : Option Addr) (cap capy : Nat) :
    Calls Tryz.prog 154 #[.slice xa 0 cap, .slice ya 0 capy] w fun e w' => e = .returned (.int .i64 0) ∧ w = w' := by
  go_enter Tryz.func154, Tryz.ntmps154
  go_wp2
  go_loop [5] (fun i => i = .int .i64 (-1)) (fun i => (intOf i + 1).toNat)
  case atStart => rfl
  case round =>
    subst hrel
    go_wp2
    go_ret
    exact ⟨rfl, rfl⟩

set_option maxHeartbeats 1000000 in
theorem rOrder_eq (w : World) (b o cap ob oy capy n : Nat) (xs ys : List Int) (hn : xs.length = n) (hm : ys.length = n) (hx : Sr w b o cap xs) (hy : Sr w ob oy capy ys) (cx : Num.Can xs) (cy : Num.Can ys) :
    Calls Tryz.prog 154 #[.slice (some ⟨b, o, none⟩) n cap, .slice (some ⟨ob, oy, none⟩) n capy] w
      fun e w' => e = .returned (.int .i64 (cmp3 (Num.gval xs) (Num.gval ys))) ∧ ∃ k, w' = w.drewN k := by
  have hnb : n ≤ 1000000 := by have := hx.lim; omega
  have HN := Lib.hid hn
  have HM := Lib.hid hm
  clear hn hm
  have hb : ((n : Int) == n) = true := by simp
  go_enter Tryz.func154, Tryz.ntmps154
  go_wp2
  go_loopw [5] (fun i wr => ∃ z : Int, -1 ≤ z ∧ z < n ∧ i = .int .i64 z ∧ xs.drop (z + 1).toNat = ys.drop (z + 1).toNat ∧ ∃ q, wr = w.drewN q) (fun i _ => (intOf i + 1).toNat)
  case atStart => exact ⟨n - 1, by omega, by omega, rfl, by rw [List.drop_of_length_le (by have := HN.out; omega), List.drop_of_length_le (by have := HM.out; omega)], 0, rfl⟩
  case round =>
    obtain ⟨z, hz0, hz1, rfl, he, q, rfl⟩ := hrel
    have HE := Lib.hid he
    clear he
    by_cases hneg : z < 0
    · have hr : cmp3 (Num.gval xs) (Num.gval ys) = 0 := by
        have := HE.out
        rw [show (z + 1).toNat = 0 by omega] at this
        simp at this
        rw [this]; exact cmp3_eq rfl
      have H := Lib.hid hr
      clear hr
      go_wp2
      go_ret
      exact ⟨by rw [H.out]; rfl, q, rfl⟩
    · obtain ⟨j, rfl⟩ := Int.eq_ofNat_of_zero_le (show 0 ≤ z by omega)
      obtain ⟨x, hxx⟩ : ∃ x, x = xs.getD j 0 := ⟨_, rfl⟩
      obtain ⟨y, hyy⟩ : ∃ y, y = ys.getD j 0 := ⟨_, rfl⟩
      have hcx : w.cell? ⟨b, o + j, none⟩ = some (.int .i64 x) := by rw [hxx]; exact hx.cell j (by have := HN.out; omega)
      have hcy : w.cell? ⟨ob, oy + j, none⟩ = some (.int .i64 y) := by rw [hyy]; exact hy.cell j (by have := HM.out; omega)
      have HX := Lib.hid hxx
      have HY := Lib.hid hyy
      clear hxx hyy
      by_cases hxy : x = y
      · have hb2 : ¬ x < y := by omega
        have hb3 : ¬ y < x := by omega
        have hd : xs.drop j = ys.drop j := by
          have h1 := HN.out; have h2 := HM.out
          have h3 := HE.out
          rw [show ((j : Int) + 1).toNat = j + 1 by omega] at h3
          rw [List.drop_eq_getElem_cons (show j < xs.length by omega), List.drop_eq_getElem_cons (show j < ys.length by omega), h3]
          congr 1
          have e1 := HX.out; have e2 := HY.out
          simp [List.getD, show j < xs.length by omega] at e1
          simp [List.getD, show j < ys.length by omega] at e2
          rw [← e1, ← e2, hxy]
        have H := Lib.hid hd
        clear hd hxy
        go_wp2
        go_quiet (fail)
        go_wp2
        go_quiet (fail)
        go_wp2
        go_roundw
        case rel => exact ⟨_, by omega, by omega, rfl, by rw [show ((j : Int) - 1 + 1).toNat = j by omega]; exact H.out, _, rfl⟩
        case measure => simp [intOf]
      · have hr : cmp3 (Num.gval xs) (Num.gval ys) = if x < y then -1 else 1 := by
          have h1 := HN.out; have h2 := HM.out
          have h3 := HE.out
          rw [show ((j : Int) + 1).toNat = j + 1 by omega] at h3
          have e1 := HX.out; have e2 := HY.out
          simp [List.getD, show j < xs.length by omega] at e1
          simp [List.getD, show j < ys.length by omega] at e2
          by_cases hlt : x < y
          · rw [cmp3_lt (Num.gval_lt_at cx.1 cy.1 j (by omega) (by omega) h3 (by rw [← e1, ← e2]; exact hlt)), if_pos hlt]
          · rw [cmp3_gt (Num.gval_lt_at cy.1 cx.1 j (by omega) (by omega) h3.symm (by rw [← e1, ← e2]; omega)), if_neg hlt]
        by_cases hlt : x < y
        · rw [if_pos hlt] at hr
          have H := Lib.hid hr
          clear hr hxy
          go_wp2
          go_quiet (fail)
          go_wp2
          go_ret
          exact ⟨by rw [H.out]; rfl, _, by rw [World.drewN_drewN]⟩
        · rw [if_neg hlt] at hr
          have hgt : y < x := by omega
          have H := Lib.hid hr
          clear hr hxy
          go_wp2
          go_quiet (fail)
          go_wp2
          go_quiet (fail)
          go_wp2
          go_ret
          exact ⟨by rw [H.out]; rfl, _, by rw [World.drewN_drewN, World.drewN_drewN]⟩

theorem rOrder_any (w : World) (xa ya : Option Addr) (cap capy n m : Nat) (xs ys : List Int) (hn : xs.length = n) (hm : ys.length = m) (hx : Rd w xa cap xs) (hy : Rd w ya capy ys) (cx : Num.Can xs) (cy : Num.Can ys) :
    Calls Tryz.prog 154 #[.slice xa n cap, .slice ya m capy] w
      fun e w' => e = .returned (.int .i64 (cmp3 (Num.gval xs) (Num.gval ys))) ∧ ∃ k, w' = w.drewN k := by
  by_cases hnm : n = m
  · subst hnm
    by_cases h0 : n = 0
    · subst h0
      obtain rfl : xs = [] := List.eq_nil_of_length_eq_zero hn
      obtain rfl : ys = [] := List.eq_nil_of_length_eq_zero hm
      exact (rOrder_zero w xa ya cap capy).mono fun e w' h => ⟨h.1, 0, h.2 ▸ rfl⟩
    · obtain ⟨b, o, rfl, hs⟩ := hx.sl (by omega)
      obtain ⟨ob, oy, rfl, ht⟩ := hy.sl (by omega)
      exact rOrder_eq w b o cap ob oy capy n xs ys hn hm hs ht cx cy
  · refine (rOrder_ne w xa ya cap capy n m hnm _ rfl).mono fun e w' h => ⟨?_, 0, h.2 ▸ rfl⟩
    rw [h.1]
    by_cases hlt : n < m
    · rw [if_pos hlt, cmp3_lt (Num.gval_lt_of_length cx cy (by omega))]
    · rw [if_neg hlt, cmp3_gt (Num.gval_lt_of_length cy cx (by omega))]

end Go.Proofs.YthhihdihkddakaaGreatDoor
