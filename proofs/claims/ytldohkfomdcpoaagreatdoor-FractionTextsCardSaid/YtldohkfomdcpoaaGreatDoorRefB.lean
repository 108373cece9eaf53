/- The reference implementation of layer 1: Canonical, Neg: walks. -/
import Derived.Test.YtldohkfomdcpoaaGreatDoorRefA

namespace Go.Proofs.YtldohkfomdcpoaaGreatDoor
open Go.RowKit

theorem cS_minus {s : ByteArray} (h : Num.sneg s.data.toList = true) : (ByteArray.mk #[45]) ++ (ByteArray.mk (Num.sdig s.data.toList).toArray) = cS (vS s) := by
  rw [minus_append]
  unfold cS vS
  rw [← Num.joined_val, h]
  unfold Num.joined
  have h2 := Num.sneg_mag h
  have : (Num.sdig s.data.toList).isEmpty = false := by
    rw [List.isEmpty_eq_false_iff]; intro e; unfold Num.mag at h2; rw [e] at h2; simp [Num.num] at h2
  rw [this]; rfl
theorem cS_plus {s : ByteArray} (h : Num.sneg s.data.toList = false) : (ByteArray.mk (Num.sdig s.data.toList).toArray) = cS (vS s) := by
  unfold cS vS
  rw [← Num.joined_val, h]; rfl
theorem cSn_minus {s : ByteArray} (h : Num.sneg s.data.toList = true) : (ByteArray.mk (Num.sdig s.data.toList).toArray) = cS (-(vS s)) := by
  unfold cS vS
  rw [← Num.joined_neg, ← Num.sneg_val, ← Num.sdig_val, h]; rfl
theorem cSn_zero {s : ByteArray} (h : Num.sdig s.data.toList = []) : (ByteArray.mk (Num.sdig s.data.toList).toArray) = cS (-(vS s)) := by
  unfold cS vS
  rw [← Num.joined_neg, ← Num.sdig_val, h]
  unfold Num.joined; simp
theorem cSn_plus {s : ByteArray} (h : Num.sneg s.data.toList = false) (h0 : (Num.sdig s.data.toList).isEmpty = false) : (ByteArray.mk #[45]) ++ (ByteArray.mk (Num.sdig s.data.toList).toArray) = cS (-(vS s)) := by
  rw [minus_append]
  unfold cS vS
  rw [← Num.joined_neg, ← Num.sneg_val, ← Num.sdig_val, h]
  unfold Num.joined; rw [h0]; rfl

set_option maxHeartbeats 400000 in
theorem rCanonical_any (s : ByteArray) (w : World) (hs : s.size ≤ 4294967296) :
    Calls Tryz.prog 91 #[.string s] w fun e w' => e = .returned (.string (cS (vS s))) ∧ w = w' := by
  have hl := sdig_lim hs
  have hm := lim_max hs
  cases hn : Num.sneg s.data.toList
  · have H := Lib.hid (cS_plus hn)
    go_enter Tryz.func91, Tryz.ntmps91
    go_wp2_with fail
    refine (digits_any s w hm).mono ?_
    rintro e w' ⟨rfl, rfl⟩
    rw [hn]
    go_wp2_with fail
    go_ret
    exact ⟨by rw [H.out]; rfl, rfl⟩
  · have H := Lib.hid (cS_minus hn)
    have h0 : ¬ 9223372036854775807 < 1 + (Num.sdig s.data.toList).length := by omega
    go_enter Tryz.func91, Tryz.ntmps91
    go_wp2_with fail
    refine (digits_any s w hm).mono ?_
    rintro e w' ⟨rfl, rfl⟩
    rw [hn]
    go_wp2_with fail
    go_ret
    exact ⟨by rw [H.out]; rfl, rfl⟩

set_option maxHeartbeats 400000 in
theorem rNeg_any (s : ByteArray) (w : World) (hs : s.size ≤ 4294967296) :
    Calls Tryz.prog 55 #[.string s] w fun e w' => e = .returned (.string (cS (- vS s))) ∧ w = w' := by
  have hl := sdig_lim hs
  have hm := lim_max hs
  cases hn : Num.sneg s.data.toList
  · cases h0 : (Num.sdig s.data.toList).isEmpty
    · have H := Lib.hid (cSn_plus hn h0)
      have hz : ¬ 9223372036854775807 < 1 + (Num.sdig s.data.toList).length := by omega
      have h1 : Num.sdig s.data.toList ≠ [] := by simpa using h0
      have hq : (ByteArray.mk (Num.sdig s.data.toList).toArray).toList.isEmpty = false := by rw [Lib.toList_data]; simpa using h1
      have hq2 : ((ByteArray.mk (Num.sdig s.data.toList).toArray).toList == []) = false := by rw [Lib.toList_data]; simpa using h1
      go_enter Tryz.func55, Tryz.ntmps55
      go_wp2_with fail
      refine (digits_any s w hm).mono ?_
      rintro e w' ⟨rfl, rfl⟩
      rw [hn]
      go_wp2_with fail
      go_ret
      exact ⟨by rw [H.out]; rfl, rfl⟩
    · have h1 : Num.sdig s.data.toList = [] := by simpa using h0
      have H := Lib.hid (cSn_zero h1)
      have hq : (ByteArray.mk (Num.sdig s.data.toList).toArray).toList.isEmpty = true := by rw [Lib.toList_data]; simpa using h1
      have hq2 : ((ByteArray.mk (Num.sdig s.data.toList).toArray).toList == []) = true := by rw [Lib.toList_data]; simpa using h1
      clear h1
      go_enter Tryz.func55, Tryz.ntmps55
      go_wp2_with fail
      refine (digits_any s w hm).mono ?_
      rintro e w' ⟨rfl, rfl⟩
      rw [hn]
      go_wp2_with fail
      go_ret
      exact ⟨by rw [H.out]; rfl, rfl⟩
  · have H := Lib.hid (cSn_minus hn)
    go_enter Tryz.func55, Tryz.ntmps55
    go_wp2_with fail
    refine (digits_any s w hm).mono ?_
    rintro e w' ⟨rfl, rfl⟩
    rw [hn]
    go_wp2_with fail
    go_ret
    exact ⟨by rw [H.out]; rfl, rfl⟩

end Go.Proofs.YtldohkfomdcpoaaGreatDoor
