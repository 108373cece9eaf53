/- The reference implementation of layer 1: Check, Print, Parse: walks. -/
import Derived.Test.YtldohkfomdcpoaaGreatDoorRefB
namespace Go.Proofs.YtldohkfomdcpoaaGreatDoor
open Go.RowKit

set_option maxHeartbeats 400000 in
theorem rPrint_any (s : ByteArray) (w : World) (hs : s.size ≤ 4294967296) :
    Calls Tryz.prog 62 #[.string s] w fun e w' => e = .returned (.string (pS (vS s))) ∧ w = w' := by
  have hb := cS_empty (vS s)
  by_cases h0 : vS s = 0
  · rw [decide_eq_true h0] at hb
    have H := Lib.hid h0
    clear h0
    go_enter Tryz.func62, Tryz.ntmps62
    go_wp2_with (first | (go_at_call 91; refine (rCanonical_any _ _ hs).mono ?_; rintro e w' ⟨rfl, rfl⟩))
    go_ret
    exact ⟨by rw [H.out, pS_zero]; rfl, rfl⟩
  · rw [decide_eq_false h0] at hb
    have H := Lib.hid h0
    clear h0
    go_enter Tryz.func62, Tryz.ntmps62
    go_wp2_with (first | (go_at_call 91; refine (rCanonical_any _ _ hs).mono ?_; rintro e w' ⟨rfl, rfl⟩))
    go_ret
    exact ⟨by rw [pS_of_ne H.out]; rfl, rfl⟩

set_option maxHeartbeats 400000 in
theorem rParse_long (s : ByteArray) (w : World) (hs : 65536 < s.size) :
    Calls Tryz.prog 61 #[.string s] w fun e w' => e = .returned (.tuple #[.string ⟨#[]⟩, .int .i64 4]) ∧ w = w' := by
  go_enter Tryz.func61, Tryz.ntmps61
  go_wp2
  go_ret2
  exact ⟨rfl, rfl⟩

theorem isText_ne {s : ByteArray} (h : isText s = true) : s.toList.isEmpty = false := by
  rw [Bool.eq_false_iff]; intro e
  rw [List.isEmpty_iff, Lib.toList_data] at e
  have hs : s = ⟨#[]⟩ := by apply ByteArray.ext; exact Array.toList_inj.1 (by rw [e])
  subst hs
  revert h; decide +kernel

set_option maxHeartbeats 400000 in
theorem rParse_ok (s : ByteArray) (w : World) (hs : s.size ≤ 65536) (ht : isText s = true) :
    Calls Tryz.prog 61 #[.string s] w fun e w' => e = .returned (.tuple #[.string (cS (vS s)), .int .i64 0]) ∧ w = w' := by
  have hl : s.size ≤ 4294967296 := by omega
  have he := isText_ne ht
  have hb := beq_toList (pS (vS s)) s
  unfold isText at ht
  rw [ht] at hb
  clear ht
  go_enter Tryz.func61, Tryz.ntmps61
  go_wp2_with fail
  refine (rPrint_any _ _ hl).mono ?_; rintro e w' ⟨rfl, rfl⟩
  go_wp2_with fail
  refine (rCanonical_any _ _ hl).mono ?_; rintro e w' ⟨rfl, rfl⟩
  go_wp2_with fail
  go_ret2
  exact ⟨rfl, rfl⟩

set_option maxHeartbeats 400000 in
theorem rParse_bad (s : ByteArray) (w : World) (hs : s.size ≤ 65536) (ht : isText s = false) :
    Calls Tryz.prog 61 #[.string s] w fun e w' => e = .returned (.tuple #[.string ⟨#[]⟩, .int .i64 3]) ∧ w = w' := by
  have hl : s.size ≤ 4294967296 := by omega
  have hb := beq_toList (pS (vS s)) s
  unfold isText at ht
  rw [ht] at hb
  clear ht
  cases he : s.toList.isEmpty
  · go_enter Tryz.func61, Tryz.ntmps61
    go_wp2_with fail
    refine (rPrint_any _ _ hl).mono ?_; rintro e w' ⟨rfl, rfl⟩
    go_wp2_with fail
    go_ret2
    exact ⟨rfl, rfl⟩
  · go_enter Tryz.func61, Tryz.ntmps61
    go_wp2_with fail
    go_ret2
    exact ⟨rfl, rfl⟩

end Go.Proofs.YtldohkfomdcpoaaGreatDoor
