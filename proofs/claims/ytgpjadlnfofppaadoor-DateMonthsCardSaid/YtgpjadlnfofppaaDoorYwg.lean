/- Layer 6, the program: read: the walk. -/
import Derived.Test.YtgpjadlnfofppaaDoorYwf
namespace Go.Proofs.YtgpjadlnfofppaaDoor
open Go.RowKit Dat

/-! ### read -/
/-- has a text the form of a date? -/
def formP (s : ByteArray) : Prop := s.size = 10 ∧ s.data.toList.getD 4 0 = 45 ∧ s.data.toList.getD 7 0 = 45 ∧ allD (s.extract 0 (0 + 4)).data.toList = true ∧ allD (s.extract 5 (5 + 2)).data.toList = true ∧ allD (s.extract 8 (8 + 2)).data.toList = true
theorem at_getD (s : ByteArray) (i : Nat) (h : i < s.size) : s[i]'h = s.data.toList.getD i 0 := by
  rw [List.getD_eq_getElem?_getD, List.getElem?_eq_getElem (by simpa using h)]
  rfl
theorem byte45 {c : UInt8} : (c.toNat : Int) = 45 ↔ c = 45 := by
  constructor
  · intro h
    apply UInt8.toNat_inj.1
    have : c.toNat = 45 := by omega
    rw [this]
    rfl
  · rintro rfl
    rfl
/-- what read returns -/
def ReadP (s : ByteArray) (w : World) (e : Ending) (w' : World) : Prop :=
  Below w.heap.size w w' ∧ (formP s ∧ e = .returned (.tuple #[.int .i64 (numI (s.extract 0 (0 + 4)).data.toList), .int .i64 (numI (s.extract 5 (5 + 2)).data.toList), .int .i64 (numI (s.extract 8 (8 + 2)).data.toList), .int .i64 0]) ∨
    ¬ formP s ∧ e = .returned (.tuple #[.int .i64 0, .int .i64 0, .int .i64 0, .int .i64 3]))
set_option maxRecDepth 100000 in
set_option maxHeartbeats 8000000 in
theorem pRead_size (s : ByteArray) (w : World) (h : s.size ≠ 10) : Calls Tryd.prog 43 #[.string s] w (ReadP s w) := by
  have H := Lib.hid (show ¬ formP s from fun g => h g.1)
  have hb : ((s.size : Int) != 10) = true := by rw [bne_iff_ne]; omega
  clear h
  unfold ReadP
  go_enter Tryd.func43, Tryd.ntmps43
  go_wp2_with fail
  exact bodyPost_ret (v := .tuple #[.int .i64 0, .int .i64 0, .int .i64 0, .int .i64 3]) (by simp [results, Tryd.results43, go_sem]) rfl ⟨(Below.refl _ _).alloc (Nat.le_refl _) _, Or.inr ⟨H.out, rfl⟩⟩
set_option maxRecDepth 100000 in
set_option maxHeartbeats 8000000 in
theorem pRead_four (s : ByteArray) (w : World) (h : s.size = 10) (h4 : s.data.toList.getD 4 0 ≠ 45) : Calls Tryd.prog 43 #[.string s] w (ReadP s w) := by
  have H := Lib.hid (show ¬ formP s from fun g => h4 g.2.1)
  have hb : ((s.size : Int) != 10) = false := by rw [bne_eq_false_iff_eq]; omega
  have l4 : 4 < s.size := by omega
  have e4 := at_getD s 4 l4
  have c4 : (((s[4]'l4).toNat : Int) != 45) = true := by rw [bne_iff_ne, e4]; exact fun e => h4 (byte45.1 e)
  clear h h4 e4
  unfold ReadP
  go_enter Tryd.func43, Tryd.ntmps43
  go_wp2_with fail
  exact bodyPost_ret (v := .tuple #[.int .i64 0, .int .i64 0, .int .i64 0, .int .i64 3]) (by simp [results, Tryd.results43, go_sem]) rfl ⟨(Below.refl _ _).alloc (Nat.le_refl _) _, Or.inr ⟨H.out, rfl⟩⟩
set_option maxRecDepth 100000 in
set_option maxHeartbeats 8000000 in
theorem pRead_seven (s : ByteArray) (w : World) (h : s.size = 10) (h4 : s.data.toList.getD 4 0 = 45) (h7 : s.data.toList.getD 7 0 ≠ 45) : Calls Tryd.prog 43 #[.string s] w (ReadP s w) := by
  have H := Lib.hid (show ¬ formP s from fun g => h7 g.2.2.1)
  have hb : ((s.size : Int) != 10) = false := by rw [bne_eq_false_iff_eq]; omega
  have l4 : 4 < s.size := by omega
  have l7 : 7 < s.size := by omega
  have e4 := at_getD s 4 l4
  have e7 := at_getD s 7 l7
  have c4 : (((s[4]'l4).toNat : Int) != 45) = false := by rw [bne_eq_false_iff_eq, e4, h4]; rfl
  have c7 : (((s[7]'l7).toNat : Int) != 45) = true := by rw [bne_iff_ne, e7]; exact fun e => h7 (byte45.1 e)
  clear h h4 h7 e4 e7
  unfold ReadP
  go_enter Tryd.func43, Tryd.ntmps43
  go_wp2_with fail
  exact bodyPost_ret (v := .tuple #[.int .i64 0, .int .i64 0, .int .i64 0, .int .i64 3]) (by simp [results, Tryd.results43, go_sem]) rfl ⟨(Below.refl _ _).alloc (Nat.le_refl _) _, Or.inr ⟨H.out, rfl⟩⟩
set_option maxRecDepth 100000 in
set_option maxHeartbeats 8000000 in
theorem pRead_ok (s : ByteArray) (w : World) (h : s.size = 10) (h4 : s.data.toList.getD 4 0 = 45) (h7 : s.data.toList.getD 7 0 = 45) : Calls Tryd.prog 43 #[.string s] w (ReadP s w) := by
  obtain ⟨X1, hX1⟩ : ∃ X, s.extract 0 (0 + 4) = X := ⟨_, rfl⟩
  obtain ⟨X2, hX2⟩ : ∃ X, s.extract 5 (5 + 2) = X := ⟨_, rfl⟩
  obtain ⟨X3, hX3⟩ : ∃ X, s.extract 8 (8 + 2) = X := ⟨_, rfl⟩
  have H1 := Lib.hid (fun (b : Bool) (S F B : Nat) (w : World) => pNumber s X1 0 4 b S F B w (by omega) (by omega) (by omega) hX1 (by rw [← hX1, ByteArray.size_extract]; omega))
  have H2 := Lib.hid (fun (b : Bool) (S F B : Nat) (w : World) => pNumber s X2 5 2 b S F B w (by omega) (by omega) (by omega) hX2 (by rw [← hX2, ByteArray.size_extract]; omega))
  have H3 := Lib.hid (fun (b : Bool) (S F B : Nat) (w : World) => pNumber s X3 8 2 b S F B w (by omega) (by omega) (by omega) hX3 (by rw [← hX3, ByteArray.size_extract]; omega))
  have HF := Lib.hid (show formP s ↔ (((true && allD X1.data.toList) && allD X2.data.toList) && allD X3.data.toList) = true by
    unfold formP
    rw [hX1, hX2, hX3, Bool.and_eq_true, Bool.and_eq_true, Bool.true_and]
    exact ⟨fun g => ⟨⟨g.2.2.2.1, g.2.2.2.2.1⟩, g.2.2.2.2.2⟩, fun g => ⟨h, h4, h7, g.1.1, g.1.2, g.2⟩⟩)
  have hb : ((s.size : Int) != 10) = false := by rw [bne_eq_false_iff_eq]; omega
  have l4 : 4 < s.size := by omega
  have l7 : 7 < s.size := by omega
  have e4 := at_getD s 4 l4
  have e7 := at_getD s 7 l7
  have c4 : (((s[4]'l4).toNat : Int) != 45) = false := by rw [bne_eq_false_iff_eq, e4, h4]; rfl
  have c7 : (((s[7]'l7).toNat : Int) != 45) = false := by rw [bne_eq_false_iff_eq, e7, h7]; rfl
  unfold ReadP
  rw [hX1, hX2, hX3]
  clear h h4 h7 e4 e7 hX1 hX2 hX3
  obtain ⟨S, hS⟩ : ∃ S, w.heap.size = S := ⟨_, rfl⟩
  go_enter Tryd.func43, Tryd.ntmps43
  go_wp2_with fail
  obtain ⟨W1, hW1⟩ : ∃ W1, W1 = (w.alloc (.cells #[.string s] 9)).alloc (.cells #[.bool true] 4) := ⟨_, rfl⟩
  have HS1 := Lib.hid (show Boxed W1 S 9 (.string s) by rw [hW1, ← hS]; exact (Boxed.new w _ _).alloc _)
  have hsz : (w.alloc (.cells #[.string s] 9)).heap.size = S + 1 := by show (w.heap.push _).size = _; rw [Array.size_push, hS]
  have HF1 := Lib.hid (show Boxed W1 (S + 1) 4 (.bool true) by rw [hW1, ← hsz]; exact Boxed.new _ _ _)
  have HB1 := Lib.hid (show Below S w W1 by rw [hW1]; exact ((Below.refl S w).alloc (by omega) _).alloc (by omega) _)
  rw [← hW1]
  clear hW1 hsz
  refine (H1.out true S (S + 1) S W1 HS1.out HF1.out (by omega) (by omega) (by have := HB1.out.size; omega)).mono ?_
  rintro _ w1 ⟨rfl, hF2, hS2, hB2⟩
  have HS2 := Lib.hid hS2
  have HF2 := Lib.hid hF2
  have HB2 := Lib.hid (HB1.out.trans hB2)
  clear hF2 hS2 hB2 HS1 HF1 HB1 H1
  go_wp2_with fail
  refine (H2.out _ S (S + 1) S w1 HS2.out HF2.out (by omega) (by omega) (by have := HB2.out.size; omega)).mono ?_
  rintro _ w2 ⟨rfl, hF3, hS3, hB3⟩
  have HS3 := Lib.hid hS3
  have HF3 := Lib.hid hF3
  have HB3 := Lib.hid (HB2.out.trans hB3)
  clear hF3 hS3 hB3 HS2 HF2 HB2 H2
  go_wp2_with fail
  refine (H3.out _ S (S + 1) S w2 HS3.out HF3.out (by omega) (by omega) (by have := HB3.out.size; omega)).mono ?_
  rintro _ w3 ⟨rfl, hF4, hS4, hB4⟩
  have HB4 := Lib.hid (HB3.out.trans hB4)
  obtain ⟨q, hq⟩ : ∃ q, (((true && allD X1.data.toList) && allD X2.data.toList) && allD X3.data.toList) = q := ⟨_, rfl⟩
  rw [hq] at hF4
  have HFQ := Lib.hid (show formP s ↔ q = true by rw [← hq]; exact HF.out)
  have hqc := hF4.cell
  clear hF4 hS4 hB4 HS3 HF3 HB3 H3 HF hq hb c4 c7
  cases q with
  | false =>
    go_wp2_with fail
    exact bodyPost_ret (v := .tuple #[.int .i64 0, .int .i64 0, .int .i64 0, .int .i64 3]) (by simp [results, Tryd.results43, go_sem]) rfl ⟨by rw [hS]; exact HB4.out, Or.inr ⟨fun g => absurd (HFQ.out.1 g) (by decide), rfl⟩⟩
  | true =>
    go_wp2_with fail
    exact bodyPost_ret (v := .tuple #[.int .i64 (numI X1.data.toList), .int .i64 (numI X2.data.toList), .int .i64 (numI X3.data.toList), .int .i64 0]) (by simp [results, Tryd.results43, go_sem]) rfl ⟨by rw [hS]; exact HB4.out, Or.inl ⟨HFQ.out.2 (by first | rfl | trivial), rfl⟩⟩
theorem pRead (s : ByteArray) (w : World) : Calls Tryd.prog 43 #[.string s] w (ReadP s w) := by
  by_cases h : s.size = 10
  · by_cases h4 : s.data.toList.getD 4 0 = 45
    · by_cases h7 : s.data.toList.getD 7 0 = 45
      · exact pRead_ok s w h h4 h7
      · exact pRead_seven s w h h4 h7
    · exact pRead_four s w h h4
  · exact pRead_size s w h

end Go.Proofs.YtgpjadlnfofppaaDoor
