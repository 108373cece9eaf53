/- the law DecimalTexts: the walk. -/
import Derived.Test.YtlonbfddhfacmaaGreatDoorDG
import Derived.Test.YtlonbfddhfacmaaGreatDoorKE
namespace Go.Proofs.YtlonbfddhfacmaaGreatDoor
open Go.RowKit Fra

set_option maxRecDepth 100000 in
set_option maxHeartbeats 16000000 in
theorem dtx_l1 (n : ByteArray) (k : Int) (s : ByteArray) (w : World) (hG : Ground w) (hl : longS n = true) :
    Calls Tryz.prog 4 #[.string n, .int .i64 k, .string s] w fun e w' => e = .returned (.bool true) ∧ Below w.heap.size w w' := by
  have HAW := Lib.hid dawake_any
  have HL := Lib.hid hl
  clear hl
  have hS : StL w w [] := StL.zero hG
  go_enter Tryz.func4, Tryz.ntmps4
  go_wp2_with fail
  refine Calls.mono (rLongI n w) ?_
  rintro _ _ ⟨rfl, rfl⟩
  rw [HL.out]
  go_wp2_with fail
  refine Calls.mono (Ret.call HAW.out _ hS.g) ?_
  rintro _ w1 ⟨rfl, hB⟩
  replace hS := hS.next hB
  clear hB
  go_wp2_with fail
  go_ret
  exact ⟨rfl, hS.below⟩

set_option maxRecDepth 100000 in
set_option maxHeartbeats 16000000 in
theorem dtx_l2 (n : ByteArray) (k : Int) (s : ByteArray) (w : World) (hG : Ground w) (hl : longS n = false) (ht : greatT s = true) :
    Calls Tryz.prog 4 #[.string n, .int .i64 k, .string s] w fun e w' => e = .returned (.bool true) ∧ Below w.heap.size w w' := by
  have HAW := Lib.hid dawake_any
  have HL := Lib.hid hl
  have HT := Lib.hid ht
  clear hl ht
  have hS : StL w w [] := StL.zero hG
  go_enter Tryz.func4, Tryz.ntmps4
  go_wp2_with fail
  refine Calls.mono (rLongI n w) ?_
  rintro _ _ ⟨rfl, rfl⟩
  rw [HL.out]
  go_wp2_with fail
  refine Calls.mono (rGreatT s w) ?_
  rintro _ _ ⟨rfl, rfl⟩
  rw [HT.out]
  go_wp2_with fail
  refine Calls.mono (Ret.call HAW.out _ hS.g) ?_
  rintro _ w1 ⟨rfl, hB⟩
  replace hS := hS.next hB
  clear hB
  go_wp2_with fail
  go_ret
  exact ⟨rfl, hS.below⟩

set_option maxRecDepth 100000 in
set_option maxHeartbeats 16000000 in
theorem dtx_gen (n : ByteArray) (k : Int) (s : ByteArray) (w : World) (hG : Ground w) (hl : longS n = false) (ht : greatT s = false) {t a u v : ByteArray} {e g i : Int} (h1 : Ret 21 #[.string n, .int .i64 k] (two t e)) (h2 : Ret 22 #[.string n, .int .i64 k] (two t e)) (h3 : Ret 23 #[.string s, .int .i64 k] (two a g)) (h4 : Ret 24 #[.string s, .int .i64 k] (two a g)) (h5 : Ret 25 #[.string s] (fraE u v i)) (h6 : Ret 26 #[.string s] (fraE u v i)) :
    Calls Tryz.prog 4 #[.string n, .int .i64 k, .string s] w fun e w' => e = .returned (.bool true) ∧ Below w.heap.size w w' := by
  have HAW := Lib.hid dawake_any
  have HL := Lib.hid hl
  have HT := Lib.hid ht
  have H1 := Lib.hid h1
  have H2 := Lib.hid h2
  have H3 := Lib.hid h3
  have H4 := Lib.hid h4
  have H5 := Lib.hid h5
  have H6 := Lib.hid h6
  clear hl ht h1 h2 h3 h4 h5 h6
  have hS : StL w w [] := StL.zero hG
  go_enter Tryz.func4, Tryz.ntmps4
  go_wp2_with fail
  refine Calls.mono (rLongI n w) ?_
  rintro _ _ ⟨rfl, rfl⟩
  rw [HL.out]
  go_wp2_with fail
  refine Calls.mono (rGreatT s w) ?_
  rintro _ _ ⟨rfl, rfl⟩
  rw [HT.out]
  go_wp2_with fail
  refine Calls.mono (Ret.call H1.out _ hS.g) ?_
  rintro _ w1 ⟨rfl, hB⟩
  replace hS := hS.next hB
  clear hB
  go_wp2_with fail
  refine Calls.mono (Ret.call H2.out _ hS.g) ?_
  rintro _ w2 ⟨rfl, hB⟩
  replace hS := hS.next hB
  clear hB
  go_wp2_with fail
  refine Calls.mono (Ret.call H3.out _ hS.g) ?_
  rintro _ w3 ⟨rfl, hB⟩
  replace hS := hS.next hB
  clear hB
  go_wp2_with fail
  refine Calls.mono (Ret.call H4.out _ hS.g) ?_
  rintro _ w4 ⟨rfl, hB⟩
  replace hS := hS.next hB
  clear hB
  go_wp2_with fail
  refine Calls.mono (Ret.call H5.out _ hS.g) ?_
  rintro _ w5 ⟨rfl, hB⟩
  replace hS := hS.next hB
  clear hB
  go_upto_region 8 with fail
  obtain ⟨b6, hb6⟩ : ∃ b, b = w5.heap.size := ⟨_, rfl⟩
  obtain ⟨V6, hV6⟩ : ∃ V, V = w5.alloc (.cells #[.string u, .string v] 24) := ⟨_, rfl⟩
  have hT : StL w V6 [(b6, u, v)] := by rw [hV6, hb6]; exact hS.alloc _ _
  rw [← hb6, ← hV6]
  clear hV6 hb6 hS
  have hS := hT
  clear hT
  obtain ⟨fp0, _⟩ := hS.box
  obtain ⟨fx0, fy0, _, _⟩ := fp0.cells
  go_wp2_with fail
  clear fp0 fx0 fy0
  refine Calls.mono (Ret.call H6.out _ hS.g) ?_
  rintro _ w7 ⟨rfl, hB⟩
  replace hS := hS.next hB
  clear hB
  go_upto_region 9 with fail
  obtain ⟨b8, hb8⟩ : ∃ b, b = w7.heap.size := ⟨_, rfl⟩
  obtain ⟨V8, hV8⟩ : ∃ V, V = w7.alloc (.cells #[.string u, .string v] 24) := ⟨_, rfl⟩
  have hT : StL w V8 [(b8, u, v), (b6, u, v)] := by rw [hV8, hb8]; exact hS.alloc _ _
  rw [← hb8, ← hV8]
  clear hV8 hb8 hS
  have hS := hT
  clear hT
  have hgu := frac_guards
  have heq := frac_same
  obtain ⟨fp0, fp1, _⟩ := hS.box
  obtain ⟨fx0, fy0, _, _⟩ := fp0.cells
  obtain ⟨fx1, fy1, _, _⟩ := fp1.cells
  go_wp2_with fail
  clear fp0 fx0 fy0 fp1 fx1 fy1
  refine Calls.mono (Ret.call HAW.out _ hS.g) ?_
  rintro _ w9 ⟨rfl, hB⟩
  replace hS := hS.next hB
  clear hB
  obtain ⟨fp0, fp1, _⟩ := hS.box
  obtain ⟨fx0, fy0, _, _⟩ := fp0.cells
  obtain ⟨fx1, fy1, _, _⟩ := fp1.cells
  go_wp2_with fail
  go_ret
  exact ⟨rfl, hS.below⟩

theorem text_same {n : ByteArray} (k : Int) (hn : n.size ≤ 60) : ∃ t e, Ret 21 #[.string n, .int .i64 k] (two t e) ∧ Ret 22 #[.string n, .int .i64 k] (two t e) := by
  cases hp : okP k with
  | false => exact ⟨_, _, text_range n hp, kText_range n hp⟩
  | true =>
    have h12 := okP_iff.1 hp
    obtain ⟨p, rfl⟩ : ∃ p : Nat, k = p := ⟨k.toNat, by omega⟩
    exact ⟨_, _, text_ok (p := p) (by omega) rfl (by omega), kText_ok (p := p) (by omega) rfl (by omega)⟩
theorem parse_same {s : ByteArray} (k : Int) (hs : s.size ≤ 60 ∨ 65536 < s.size) : ∃ t e, Ret 23 #[.string s, .int .i64 k] (two t e) ∧ Ret 24 #[.string s, .int .i64 k] (two t e) := by
  cases hp : okP k with
  | false => exact ⟨_, _, dParse_range s hp, kParse_range s hp⟩
  | true =>
    have h12 := okP_iff.1 hp
    obtain ⟨p, rfl⟩ : ∃ p : Nat, k = p := ⟨k.toNat, by omega⟩
    rcases hs with hs | hs
    · cases hg : isDecS s with
      | false =>
        have hf := kFra_any hs
        rw [frE_bad hg] at hf
        exact ⟨_, _, dParse_bad hp (by omega) hg, kParse_err hp hf (by decide)⟩
      | true =>
        have hf := kFra_any hs
        rw [frE_ok hg] at hf
        have hpl := placesD_le s
        have hx := frac_val (z := unitsD s) (p := placesD s) (k := 100) ((unitsD_cap hg).mono (by omega)) (by omega)
        by_cases h1 : (mulP (low (unitsD s, (10 : Int) ^ placesD s)) ((10 : Int) ^ p, 1)).2 = 1
        · have hz : mulP (low (unitsD s, (10 : Int) ^ placesD s)) ((10 : Int) ^ p, 1) = ((mulP (low (unitsD s, (10 : Int) ^ placesD s)) ((10 : Int) ^ p, 1)).1, 1) := Prod.ext rfl h1
          exact ⟨_, _, dParse_ok (by omega) hg (by omega) (units_is.1 hz), kParse_ok (by omega) hf hx.1 hx.2 rfl h1⟩
        · refine ⟨_, _, dParse_inexact (by omega) hg (by omega) ?_, kParse_no (by omega) hf hx.1 hx.2 rfl h1⟩
          intro h
          rw [Int.fmod_def] at h
          exact h1 (units_some.2 ⟨Int.fdiv (unitsD s * (10 : Int) ^ p) ((10 : Int) ^ placesD s), by rw [Int.mul_comm (Int.fdiv _ _)]; omega⟩)
    · exact ⟨_, _, dParse_long hp hs, kParse_err hp (kFra_long hs) (by decide)⟩
theorem fraction_same {s : ByteArray} (hs : s.size ≤ 60 ∨ 65536 < s.size) : ∃ u v e, Ret 25 #[.string s] (fraE u v e) ∧ Ret 26 #[.string s] (fraE u v e) := by
  rcases hs with hs | hs
  · have hf := kFra_any hs
    cases hg : isDecS s with
    | false =>
      rw [frE_bad hg] at hf
      exact ⟨_, _, _, fraction_bad (by omega) hg, hf⟩
    | true =>
      rw [frE_ok hg] at hf
      exact ⟨_, _, _, fraction_ok (by omega) hg rfl, hf⟩
  · exact ⟨_, _, _, fraction_long hs, kFra_long hs⟩
theorem dtx_any (n : ByteArray) (k : Int) (s : ByteArray) (w : World) (hG : Ground w) :
    Calls Tryz.prog 4 #[.string n, .int .i64 k, .string s] w fun e w' => e = .returned (.bool true) ∧ Below w.heap.size w w' := by
  cases hl : longS n with
  | true => exact dtx_l1 n k s w hG hl
  | false =>
    cases ht : greatT s with
    | true => exact dtx_l2 n k s w hG hl ht
    | false =>
      have hn : n.size ≤ 60 := by unfold longS at hl; have := of_decide_eq_false hl; omega
      have hs : s.size ≤ 60 ∨ 65536 < s.size := by
        unfold greatT at ht
        simp only [Bool.or_eq_false_iff, Bool.and_eq_false_iff, decide_eq_false_iff_not] at ht
        omega
      obtain ⟨t, e, h1, h2⟩ := text_same k hn
      obtain ⟨a, g, h3, h4⟩ := parse_same k hs
      obtain ⟨u, v, i, h5, h6⟩ := fraction_same hs
      exact dtx_gen n k s w hG hl ht h1 h2 h3 h4 h5 h6

end Go.Proofs.YtlonbfddhfacmaaGreatDoor
