/- integer.Canonical, Neg, Check, Print, Parse, Of, Compare: walks by contracts. -/
import Derived.Test.YtldohkfomdcpoaaGreatDoorSplit
namespace Go.Proofs.YtldohkfomdcpoaaGreatDoor
open Go.RowKit

theorem sdig_lim {s : ByteArray} (hs : s.size ≤ 4294967296) : (Num.sdig s.data.toList).length < 9223372036854775807 := by
  have := Num.sdig_length s.data.toList
  rw [size_toList] at this; omega
theorem lim_max {s : ByteArray} (hs : s.size ≤ 4294967296) : s.size ≤ maxLen := by unfold maxLen; omega

set_option maxHeartbeats 400000 in
theorem canonical_any (s : ByteArray) (w : World) (hs : s.size ≤ 4294967296) :
    Calls Tryz.prog 65 #[.string s] w fun e w' => e = .returned (.string (cS (vS s))) ∧ w = w' := by
  have hl := sdig_lim hs
  have hm := lim_max hs
  go_enter Tryz.func65, Tryz.ntmps65
  go_wp2_with (first | (go_at_call 73; refine (split_any _ _ hm).mono ?_; rintro e w' ⟨rfl, rfl⟩) | (go_at_call 94; refine (join_any _ _ _ hl).mono ?_; rintro e w' ⟨rfl, rfl⟩))
  go_ret
  exact ⟨by rw [Num.joined_val]; rfl, rfl⟩

set_option maxHeartbeats 400000 in
theorem neg_any (s : ByteArray) (w : World) (hs : s.size ≤ 4294967296) :
    Calls Tryz.prog 93 #[.string s] w fun e w' => e = .returned (.string (cS (- vS s))) ∧ w = w' := by
  have hl := sdig_lim hs
  have hm := lim_max hs
  go_enter Tryz.func93, Tryz.ntmps93
  go_wp2_with (first | (go_at_call 73; refine (split_any _ _ hm).mono ?_; rintro e w' ⟨rfl, rfl⟩) | (go_at_call 94; refine (join_any _ _ _ hl).mono ?_; rintro e w' ⟨rfl, rfl⟩))
  go_ret
  exact ⟨by rw [Num.sneg_val, Num.sdig_val, Num.joined_neg]; rfl, rfl⟩

/-- the text of an integer: as the canonical one, but "0" for 0 -/
def pS (z : Int) : ByteArray := ⟨(Lib.itoa z).toArray⟩
/-- is the string canonical? -/
def isCan (s : ByteArray) : Bool := decide (cS (vS s) = s)
/-- the error of Check -/
def chk (s : ByteArray) : Int := if isCan s then 0 else 1

theorem beq_toList (a b : ByteArray) : (a.toList == b.toList) = decide (a = b) := by
  rw [Bool.eq_iff_iff, beq_iff_eq, decide_eq_true_iff, Lib.toList_data, Lib.toList_data]
  constructor
  · intro h; apply ByteArray.ext; exact Array.toList_inj.1 h
  · rintro rfl; rfl
theorem cS_inj {a b : Int} (h : cS a = cS b) : a = b := by rw [← vS_cS a, h, vS_cS]
theorem cS_nil (z : Int) : (cS z).toList = Num.canon z := by rw [Lib.toList_data]; rfl
theorem cS_empty (z : Int) : (cS z).toList.isEmpty = decide (z = 0) := by
  rw [cS_nil, Bool.eq_iff_iff, decide_eq_true_iff, List.isEmpty_iff]
  constructor
  · intro h; apply Num.canon_inj; rw [h]; rfl
  · rintro rfl; rfl
theorem pS_of_ne {z : Int} (h : z ≠ 0) : pS z = cS z := by
  unfold pS cS Lib.itoa Num.canon Num.digs
  by_cases h0 : z < 0
  · rw [if_pos h0, if_pos h0, if_neg (by omega)]
  · rw [if_neg h0, if_neg h0, if_neg (by omega)]; congr 3; omega
theorem pS_zero : pS 0 = ⟨#[48]⟩ := by unfold pS Lib.itoa; rw [if_neg (by decide)]; rw [Lib.decDigits_one (by decide)]; rfl

set_option maxHeartbeats 400000 in
theorem print_any (s : ByteArray) (w : World) (hs : s.size ≤ 4294967296) :
    Calls Tryz.prog 90 #[.string s] w fun e w' => e = .returned (.string (pS (vS s))) ∧ w = w' := by
  have hb := cS_empty (vS s)
  by_cases h0 : vS s = 0
  · rw [decide_eq_true h0] at hb
    have H := Lib.hid h0
    clear h0
    go_enter Tryz.func90, Tryz.ntmps90
    go_wp2_with (first | (go_at_call 65; refine (canonical_any _ _ hs).mono ?_; rintro e w' ⟨rfl, rfl⟩))
    go_ret
    exact ⟨by rw [H.out, pS_zero]; rfl, rfl⟩
  · rw [decide_eq_false h0] at hb
    have H := Lib.hid h0
    clear h0
    go_enter Tryz.func90, Tryz.ntmps90
    go_wp2_with (first | (go_at_call 65; refine (canonical_any _ _ hs).mono ?_; rintro e w' ⟨rfl, rfl⟩))
    go_ret
    exact ⟨by rw [pS_of_ne H.out]; rfl, rfl⟩

set_option maxHeartbeats 400000 in
theorem of_any (n : Int) (w : World) (hG : Ground w) (h0 : -9223372036854775808 ≤ n) (h1 : n ≤ 9223372036854775807) :
    Calls Tryz.prog 86 #[.int .i64 n] w fun e w' => e = .returned (.string (cS n)) ∧ Below w.heap.size w w' := by
  by_cases hz : n = 0
  · subst hz
    go_enter Tryz.func86, Tryz.ntmps86
    go_wp2
    go_ret
    exact ⟨rfl, Below.refl _ _⟩
  · have hb : (n == 0) = false := by simpa using hz
    have H := Lib.hid (pS_of_ne hz)
    have hT := hG.tab
    clear hz
    go_enter Tryz.func86, Tryz.ntmps86
    go_wp2_with (first | (go_at_call 109; refine (Tryz.strconv_Itoa n h0 h1 _ hT).mono ?_; rintro e w' ⟨rfl, k, os, rfl⟩))
    go_ret
    exact ⟨by rw [← H.out]; rfl, below_grow k os⟩

end Go.Proofs.YtldohkfomdcpoaaGreatDoor
