/- The reference implementation of layer 1: Canonical, Check, Neg, Print, Parse, Compare, short, Small: walks. -/
import Derived.Test.YtaopneanfflbcaaDoorRefA

namespace Go.Proofs.YtaopneanfflbcaaDoor
open Go.RowKit

theorem cS_minus {s : ByteArray} (h : Num.sneg s.data.toList = true) : (ByteArray.mk #[45]) ++ (ByteArray.mk (Num.sdig s.data.toList).toArray) = cS (vS s) := by
  rw [minus_append]
  unfold cS vS
  rw [← Num.joined_val, h]
  unfold Num.joined
  have h2 := Num.sneg_mag h
  have : (Num.sdig s.data.toList).isEmpty = false := by
    rw [List.isEmpty_eq_false_iff]; intro e; unfold Num.mag at h2; rw [e] at h2; simp [Num.num] at h2
  rw [this]; rfl
theorem cS_plus {s : ByteArray} (h : Num.sneg s.data.toList = false) : (ByteArray.mk (Num.sdig s.data.toList).toArray) = cS (vS s) := by
  unfold cS vS
  rw [← Num.joined_val, h]; rfl
theorem cSn_minus {s : ByteArray} (h : Num.sneg s.data.toList = true) : (ByteArray.mk (Num.sdig s.data.toList).toArray) = cS (-(vS s)) := by
  unfold cS vS
  rw [← Num.joined_neg, ← Num.sneg_val, ← Num.sdig_val, h]; rfl
theorem cSn_zero {s : ByteArray} (h : Num.sdig s.data.toList = []) : (ByteArray.mk (Num.sdig s.data.toList).toArray) = cS (-(vS s)) := by
  unfold cS vS
  rw [← Num.joined_neg, ← Num.sdig_val, h]
  unfold Num.joined; simp
theorem cSn_plus {s : ByteArray} (h : Num.sneg s.data.toList = false) (h0 : (Num.sdig s.data.toList).isEmpty = false) : (ByteArray.mk #[45]) ++ (ByteArray.mk (Num.sdig s.data.toList).toArray) = cS (-(vS s)) := by
  rw [minus_append]
  unfold cS vS
  rw [← Num.joined_neg, ← Num.sneg_val, ← Num.sdig_val, h]
  unfold Num.joined; rw [h0]; rfl

set_option maxHeartbeats 400000 in
theorem rCanonical_any (s : ByteArray) (w : World) (hs : s.size ≤ 4294967296) :
    Calls Tryd.prog 20 #[.string s] w fun e w' => e = .returned (.string (cS (vS s))) ∧ w = w' := by
  have hl := sdig_lim hs
  have hm := lim_max hs
  cases hn : Num.sneg s.data.toList
  · have H := Lib.hid (cS_plus hn)
    go_enter Tryd.func20, Tryd.ntmps20
    go_wp2_with fail
    refine (digits_any s w hm).mono ?_
    rintro e w' ⟨rfl, rfl⟩
    rw [hn]
    go_wp2_with fail
    go_ret
    exact ⟨by rw [H.out]; rfl, rfl⟩
  · have H := Lib.hid (cS_minus hn)
    have h0 : ¬ 9223372036854775807 < 1 + (Num.sdig s.data.toList).length := by omega
    go_enter Tryd.func20, Tryd.ntmps20
    go_wp2_with fail
    refine (digits_any s w hm).mono ?_
    rintro e w' ⟨rfl, rfl⟩
    rw [hn]
    go_wp2_with fail
    go_ret
    exact ⟨by rw [H.out]; rfl, rfl⟩

set_option maxHeartbeats 400000 in
theorem rNeg_any (s : ByteArray) (w : World) (hs : s.size ≤ 4294967296) :
    Calls Tryd.prog 24 #[.string s] w fun e w' => e = .returned (.string (cS (- vS s))) ∧ w = w' := by
  have hl := sdig_lim hs
  have hm := lim_max hs
  cases hn : Num.sneg s.data.toList
  · cases h0 : (Num.sdig s.data.toList).isEmpty
    · have H := Lib.hid (cSn_plus hn h0)
      have hz : ¬ 9223372036854775807 < 1 + (Num.sdig s.data.toList).length := by omega
      have h1 : Num.sdig s.data.toList ≠ [] := by simpa using h0
      have hq : (ByteArray.mk (Num.sdig s.data.toList).toArray).toList.isEmpty = false := by rw [Lib.toList_data]; simpa using h1
      have hq2 : ((ByteArray.mk (Num.sdig s.data.toList).toArray).toList == []) = false := by rw [Lib.toList_data]; simpa using h1
      go_enter Tryd.func24, Tryd.ntmps24
      go_wp2_with fail
      refine (digits_any s w hm).mono ?_
      rintro e w' ⟨rfl, rfl⟩
      rw [hn]
      go_wp2_with fail
      go_ret
      exact ⟨by rw [H.out]; rfl, rfl⟩
    · have h1 : Num.sdig s.data.toList = [] := by simpa using h0
      have H := Lib.hid (cSn_zero h1)
      have hq : (ByteArray.mk (Num.sdig s.data.toList).toArray).toList.isEmpty = true := by rw [Lib.toList_data]; simpa using h1
      have hq2 : ((ByteArray.mk (Num.sdig s.data.toList).toArray).toList == []) = true := by rw [Lib.toList_data]; simpa using h1
      clear h1
      go_enter Tryd.func24, Tryd.ntmps24
      go_wp2_with fail
      refine (digits_any s w hm).mono ?_
      rintro e w' ⟨rfl, rfl⟩
      rw [hn]
      go_wp2_with fail
      go_ret
      exact ⟨by rw [H.out]; rfl, rfl⟩
  · have H := Lib.hid (cSn_minus hn)
    go_enter Tryd.func24, Tryd.ntmps24
    go_wp2_with fail
    refine (digits_any s w hm).mono ?_
    rintro e w' ⟨rfl, rfl⟩
    rw [hn]
    go_wp2_with fail
    go_ret
    exact ⟨by rw [H.out]; rfl, rfl⟩

set_option maxHeartbeats 400000 in
theorem rCheck_any (s : ByteArray) (w : World) (hs : s.size ≤ 4294967296) :
    Calls Tryd.prog 18 #[.string s] w fun e w' => e = .returned (.int .i64 (chk s)) ∧ w = w' := by
  have hb := beq_toList (cS (vS s)) s
  cases hc : isCan s
  · have H := Lib.hid (show chk s = 1 by unfold chk; rw [hc]; rfl)
    unfold isCan at hc
    rw [hc] at hb
    clear hc
    go_enter Tryd.func18, Tryd.ntmps18
    go_wp2_with (first | (go_at_call 20; refine (rCanonical_any _ _ hs).mono ?_; rintro e w' ⟨rfl, rfl⟩))
    go_ret
    exact ⟨by rw [H.out]; rfl, rfl⟩
  · have H := Lib.hid (show chk s = 0 by unfold chk; rw [hc]; rfl)
    unfold isCan at hc
    rw [hc] at hb
    clear hc
    go_enter Tryd.func18, Tryd.ntmps18
    go_wp2_with (first | (go_at_call 20; refine (rCanonical_any _ _ hs).mono ?_; rintro e w' ⟨rfl, rfl⟩))
    go_ret
    exact ⟨by rw [H.out]; rfl, rfl⟩

set_option maxHeartbeats 400000 in
theorem rPrint_any (s : ByteArray) (w : World) (hs : s.size ≤ 4294967296) :
    Calls Tryd.prog 26 #[.string s] w fun e w' => e = .returned (.string (pS (vS s))) ∧ w = w' := by
  have hb := cS_empty (vS s)
  by_cases h0 : vS s = 0
  · rw [decide_eq_true h0] at hb
    have H := Lib.hid h0
    clear h0
    go_enter Tryd.func26, Tryd.ntmps26
    go_wp2_with (first | (go_at_call 20; refine (rCanonical_any _ _ hs).mono ?_; rintro e w' ⟨rfl, rfl⟩))
    go_ret
    exact ⟨by rw [H.out, pS_zero]; rfl, rfl⟩
  · rw [decide_eq_false h0] at hb
    have H := Lib.hid h0
    clear h0
    go_enter Tryd.func26, Tryd.ntmps26
    go_wp2_with (first | (go_at_call 20; refine (rCanonical_any _ _ hs).mono ?_; rintro e w' ⟨rfl, rfl⟩))
    go_ret
    exact ⟨by rw [pS_of_ne H.out]; rfl, rfl⟩

set_option maxHeartbeats 400000 in
theorem rParse_long (s : ByteArray) (w : World) (hs : 65536 < s.size) :
    Calls Tryd.prog 34 #[.string s] w fun e w' => e = .returned (.tuple #[.string ⟨#[]⟩, .int .i64 4]) ∧ w = w' := by
  go_enter Tryd.func34, Tryd.ntmps34
  go_wp2
  go_ret2
  exact ⟨rfl, rfl⟩

theorem isText_ne {s : ByteArray} (h : isText s = true) : s.toList.isEmpty = false := by
  rw [Bool.eq_false_iff]; intro e
  rw [List.isEmpty_iff, Lib.toList_data] at e
  have hs : s = ⟨#[]⟩ := by apply ByteArray.ext; exact Array.toList_inj.1 (by rw [e])
  subst hs
  revert h; decide +kernel

set_option maxHeartbeats 400000 in
theorem rParse_ok (s : ByteArray) (w : World) (hs : s.size ≤ 65536) (ht : isText s = true) :
    Calls Tryd.prog 34 #[.string s] w fun e w' => e = .returned (.tuple #[.string (cS (vS s)), .int .i64 0]) ∧ w = w' := by
  have hl : s.size ≤ 4294967296 := by omega
  have he := isText_ne ht
  have hb := beq_toList (pS (vS s)) s
  unfold isText at ht
  rw [ht] at hb
  clear ht
  go_enter Tryd.func34, Tryd.ntmps34
  go_wp2_with fail
  refine (rPrint_any _ _ hl).mono ?_; rintro e w' ⟨rfl, rfl⟩
  go_wp2_with fail
  refine (rCanonical_any _ _ hl).mono ?_; rintro e w' ⟨rfl, rfl⟩
  go_wp2_with fail
  go_ret2
  exact ⟨rfl, rfl⟩

set_option maxHeartbeats 400000 in
theorem rParse_bad (s : ByteArray) (w : World) (hs : s.size ≤ 65536) (ht : isText s = false) :
    Calls Tryd.prog 34 #[.string s] w fun e w' => e = .returned (.tuple #[.string ⟨#[]⟩, .int .i64 3]) ∧ w = w' := by
  have hl : s.size ≤ 4294967296 := by omega
  have hb := beq_toList (pS (vS s)) s
  unfold isText at ht
  rw [ht] at hb
  clear ht
  cases he : s.toList.isEmpty
  · go_enter Tryd.func34, Tryd.ntmps34
    go_wp2_with fail
    refine (rPrint_any _ _ hl).mono ?_; rintro e w' ⟨rfl, rfl⟩
    go_wp2_with fail
    go_ret2
    exact ⟨rfl, rfl⟩
  · go_enter Tryd.func34, Tryd.ntmps34
    go_wp2_with fail
    go_ret2
    exact ⟨rfl, rfl⟩

end Go.Proofs.YtaopneanfflbcaaDoor
