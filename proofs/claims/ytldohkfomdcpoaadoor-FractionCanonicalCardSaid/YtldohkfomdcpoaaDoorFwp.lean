/- The program's layer 2: Parse: the walk, by the contract of strings.Cut. -/
import Derived.Test.YtldohkfomdcpoaaDoorFwh
import Derived.Test.YtldohkfomdcpoaaDoorShelfCut
import Derived.Lib.CutLaws
namespace Go.Proofs.YtldohkfomdcpoaaDoor
open Go.RowKit Fra

/-! ### Where the first slash stands -/
def slash (l : List UInt8) : Nat := (l.takeWhile (· != 47)).length
theorem slash_le (l : List UInt8) : slash l ≤ l.length := (List.takeWhile_sublist _).length_le
theorem index_slash : ∀ l : List UInt8, Lib.index l [47] = if slash l < l.length then (slash l : Int) else -1
  | [] => by simp [Lib.index, slash]
  | b :: l => by
    have ih := index_slash l
    by_cases h : b = 47
    · subst h; simp [Lib.index, slash, List.isPrefixOf]
    · have e : slash (b :: l) = slash l + 1 := by simp [slash, h]
      have hp : List.isPrefixOf [47] (b :: l) = false := by simp [List.isPrefixOf]; exact fun e => h e.symm
      rw [Lib.index, hp, ih, e]
      by_cases h2 : slash l < l.length
      · have : ¬ ((slash l : Int) == -1) = true := by simp
        simp [h2, this]
      · simp [h2]
theorem cut_slash (l : List UInt8) : (Lib.cut l [47]).1 = l.take (slash l) ∧ (Lib.cut l [47]).2.1 = l.drop (slash l + 1) := by
  unfold Lib.cut
  rw [index_slash]
  by_cases h : slash l < l.length
  · rw [if_pos h, if_pos (by omega)]; simp
  · have hl : slash l = l.length := by have := slash_le l; omega
    rw [if_neg h, if_neg (by omega), hl]; simp
theorem slash_none : ∀ {l : List UInt8}, (∀ b ∈ l, b ≠ 47) → slash l = l.length
  | [], _ => rfl
  | b :: l, h => by
    have hb : b ≠ 47 := h b (by simp)
    have ih := slash_none (l := l) (fun c hc => h c (by simp [hc]))
    have e : slash (b :: l) = slash l + 1 := by simp [slash, hb]
    rw [e, ih]; rfl
theorem slash_app {l r : List UInt8} (h : ∀ b ∈ l, b ≠ 47) : slash (l ++ 47 :: r) = l.length := by
  unfold slash
  rw [List.takeWhile_append_of_pos (fun b hb => by simpa using h b hb)]
  simp
theorem itoa_slash (z : Int) : ∀ b ∈ Lib.itoa z, b ≠ 47 := by
  have hd : ∀ n : Nat, ∀ b ∈ Lib.decDigits n, b ≠ 47 := fun n b hb => by
    have := List.all_eq_true.1 (Num.all_decDigits n) b hb
    have := (Num.isDig_iff b).1 this
    intro e; subst e; revert this; decide
  intro b hb
  unfold Lib.itoa at hb
  split at hb
  · rcases List.mem_cons.1 hb with h | h
    · subst h; decide
    · exact hd _ b h
  · exact hd _ b hb

/-- the text ahead of the slash, and behind it -/
def numS (s : ByteArray) : ByteArray := ⟨(s.data.toList.take (slash s.data.toList)).toArray⟩
def denS (s : ByteArray) : ByteArray := ⟨(s.data.toList.drop (slash s.data.toList + 1)).toArray⟩
theorem numS_size (s : ByteArray) : (numS s).size ≤ s.size := by
  rw [← size_toList (numS s)]; unfold numS; simp; omega
theorem denS_size (s : ByteArray) : (denS s).size ≤ s.size := by
  rw [← size_toList (denS s)]; unfold denS; simp
theorem textP_list (p : Int × Int) : (textP p).data.toList = if p.2 = 1 then Lib.itoa p.1 else Lib.itoa p.1 ++ 47 :: Lib.itoa p.2 := by
  unfold textP
  split
  · rfl
  · simp [pS, ByteArray.data_append]
theorem numS_text (p : Int × Int) : numS (textP p) = pS p.1 := by
  unfold numS
  rw [textP_list]
  split
  · rw [slash_none (itoa_slash _), List.take_length]; rfl
  · rw [slash_app (itoa_slash _), List.take_left]; rfl
theorem denS_text (p : Int × Int) : denS (textP p) = if p.2 = 1 then ⟨#[]⟩ else pS p.2 := by
  unfold denS
  rw [textP_list]
  by_cases h : p.2 = 1
  · rw [if_pos h, if_pos h, slash_none (itoa_slash _), List.drop_eq_nil_of_le (by omega)]
  · rw [if_neg h, if_neg h, slash_app (itoa_slash _), ← List.drop_drop, List.drop_left]; rfl
/-- the number that a text would have -/
def parseV (s : ByteArray) : Int × Int := low (raw (numS s) (denS s))
theorem parseV_low (s : ByteArray) : Low (parseV s) := Low.of_low (raw_pos _ _)
theorem raw_text {p : Int × Int} (h : Low p) : raw (numS (textP p)) (denS (textP p)) = p := by
  rw [numS_text, denS_text]
  unfold raw
  by_cases h1 : p.2 = 1
  · rw [if_pos h1, vS_pS, vS_nil, rawP_zero]; exact Prod.ext rfl h1.symm
  · rw [if_neg h1, vS_pS, vS_pS, rawP_of_pos h.1]
theorem parseV_text {p : Int × Int} (h : Low p) : parseV (textP p) = p := by
  unfold parseV; rw [raw_text h, h.eq]

theorem fCut_any (s : ByteArray) (w : World) (hG : Ground w) (hs : s.size ≤ 65536) :
    Calls Tryd.prog 48 #[.string s, .string ⟨#[47]⟩] w fun e w' => ∃ b n, e = .returned (.tuple #[.string (numS s), .string (denS s), .bool b]) ∧ w' = w.drewN n := by
  obtain ⟨m, hm⟩ := hG.max
  refine (Tryd.strings_Cut s ⟨#[47]⟩ m w (by omega) hm).mono ?_
  rintro _ _ ⟨rfl, n, rfl⟩
  refine ⟨(Lib.cut s.data.toList [47]).2.2, n, ?_, rfl⟩
  unfold numS denS
  rw [← (cut_slash s.data.toList).1, ← (cut_slash s.data.toList).2]

set_option maxHeartbeats 1000000 in
theorem fParse_long (s : ByteArray) (w : World) (hs : 65536 < s.size) :
    Calls Tryd.prog 28 #[.string s] w fun r w' => r = .returned (.tuple #[.agg #[.string ⟨#[]⟩, .string ⟨#[]⟩], .int .i64 4]) ∧ Below w.heap.size w w' := by
  go_enter Tryd.func28, Tryd.ntmps28
  go_wp2_with fail
  exact bodyPost_ret (v := .tuple #[.agg #[.string ⟨#[]⟩, .string ⟨#[]⟩], .int .i64 4]) (by simp [results, Tryd.results28, go_sem]) rfl ⟨rfl, (Below.refl _ _).alloc (Nat.le_refl _) _⟩

set_option maxRecDepth 100000 in
set_option maxHeartbeats 4000000 in
theorem fParse_ok (s : ByteArray) (w : World) (hG : Ground w) (hs : s.size ≤ 65536) (hgood : textP (parseV s) = s) :
    Calls Tryd.prog 28 #[.string s] w fun r w' => r = .returned (.tuple #[.agg #[.string (cS (parseV s).1), .string (cD (parseV s).2)], .int .i64 0]) ∧ Below w.heap.size w w' := by
  have HG := Lib.hid hgood
  clear hgood
  have n1 := numS_size s
  have d1 := denS_size s
  have HP := Lib.hid (raw_pos (numS s) (denS s))
  have HC := Lib.hid (CapP.mono (CapP.low (CapP.of_raw (k := 65536) (n := numS s) (d := denS s) (by decide) (by omega) (by omega)) (raw_pos _ _)) (show 65536 ≤ 1000000 by decide))
  obtain ⟨W0, hW0⟩ : ∃ W0, W0 = w.alloc (.cells #[.string ⟨#[]⟩, .string ⟨#[]⟩] 24) := ⟨_, rfl⟩
  have hB0 : Below w.heap.size w W0 := by rw [hW0]; exact (Below.refl _ _).alloc (Nat.le_refl _) _
  have hR : PairAt W0 w.heap.size 24 ⟨#[]⟩ ⟨#[]⟩ := by rw [hW0]; exact PairAt.made _ _ _ _
  go_enter Tryd.func28, Tryd.ntmps28
  go_wp2_with fail
  rw [← hW0]
  clear hW0
  refine (fCut_any s W0 (hG.below hB0) hs).mono ?_
  rintro _ _ ⟨b, q, rfl, rfl⟩
  obtain ⟨W1, hW1⟩ : ∃ W1, W1 = W0.drewN q := ⟨_, rfl⟩
  have hB1 : Below w.heap.size w W1 := by rw [hW1]; exact below_drewN hB0 q
  have hR1 : PairAt W1 w.heap.size 24 ⟨#[]⟩ ⟨#[]⟩ := by rw [hW1]; exact hR
  rw [← hW1]
  clear hW1 hB0 hR
  go_wp2_with fail
  refine (fValue_any (numS s) (denS s) W1 65537 (by omega) (by omega) (by decide)).mono ?_
  rintro _ w2 ⟨x, y, rfl, e1, e2, e3, e4, hB⟩
  have hR2 := hR1.below hB
  have hB2 := hB1.trans (hB.mono hB1.size)
  have HE1 := Lib.hid e1
  have HE2 := Lib.hid e2
  clear hB hB1 hR1 e1 e2
  go_wp2_with fail
  refine (show Calls _ _ _ w2 (fun e w' => e = .returned (.agg #[.string (cS (parseV s).1), .string (cS (parseV s).2)]) ∧ Below w2.heap.size w2 w') from fLowest_v w2 (hG.below hB2) (by omega) (by omega) HE1.out HE2.out HP.out).mono ?_
  rintro _ w3 ⟨rfl, hB⟩
  have hR3 := hR2.below hB
  have hB3 := hB2.trans (hB.mono hB2.size)
  clear hB hB2 hR2
  go_wp2_with fail
  obtain ⟨B, hB8⟩ : ∃ B, B = w3.heap.size := ⟨_, rfl⟩
  obtain ⟨W4, hW4⟩ : ∃ W4, W4 = w3.alloc (.cells #[.string (cS (parseV s).1), .string (cS (parseV s).2)] 54) := ⟨_, rfl⟩
  have hBx : Below w3.heap.size w3 W4 := by rw [hW4]; exact (Below.refl _ _).alloc (Nat.le_refl _) _
  have hX4 : PairAt W4 B 54 (cS (parseV s).1) (cS (parseV s).2) := by rw [hW4, hB8]; exact PairAt.made _ _ _ _
  have hR4 := hR3.below hBx
  have hB4 := hB3.trans (hBx.mono hB3.size)
  rw [← hB8, ← hW4]
  clear hW4 hB8 hBx hB3 hR3
  refine (fText_any (parseV s) W4 HC.out).mono ?_
  rintro _ w5 ⟨rfl, hB⟩
  have hX5 := hX4.below hB
  have hR5 := hR4.below hB
  have hB5 := hB4.trans (hB.mono hB4.size)
  clear hB hB4 hR4 hX4
  obtain ⟨c0, c1, _, _⟩ := hX5.cells
  obtain ⟨r0, r1, r2, r3⟩ := hR5.cells
  rw [HG.out]
  go_wp2_with fail
  refine (fPack_any (parseV s) w5).mono ?_
  rintro _ w6 ⟨rfl, hB⟩
  have hR6 := hR5.below hB
  have hB6 := hB5.trans (hB.mono hB5.size)
  clear hB hB5 hR5 c0 c1 r0 r1 r2 r3 hX5
  obtain ⟨r0, r1, r2, r3⟩ := hR6.cells
  go_wp2_with fail
  obtain ⟨k0, k1, _, _⟩ := (hR6.put (cS (parseV s).1) (cD (parseV s).2)).cells
  exact bodyPost_ret (v := .tuple #[.agg #[.string (cS (parseV s).1), .string (cD (parseV s).2)], .int .i64 0]) (by simp [results, Tryd.results28, go_sem, k0, k1]) rfl ⟨rfl, below_put hB6 (Nat.le_refl _) _ _⟩

set_option maxRecDepth 100000 in
set_option maxHeartbeats 4000000 in
theorem fParse_bad (s : ByteArray) (w : World) (hG : Ground w) (hs : s.size ≤ 65536) (hgood : textP (parseV s) ≠ s) :
    Calls Tryd.prog 28 #[.string s] w fun r w' => r = .returned (.tuple #[.agg #[.string ⟨#[]⟩, .string ⟨#[]⟩], .int .i64 3]) ∧ Below w.heap.size w w' := by
  have HG := Lib.hid hgood
  clear hgood
  have n1 := numS_size s
  have d1 := denS_size s
  have HP := Lib.hid (raw_pos (numS s) (denS s))
  have HC := Lib.hid (CapP.mono (CapP.low (CapP.of_raw (k := 65536) (n := numS s) (d := denS s) (by decide) (by omega) (by omega)) (raw_pos _ _)) (show 65536 ≤ 1000000 by decide))
  obtain ⟨W0, hW0⟩ : ∃ W0, W0 = w.alloc (.cells #[.string ⟨#[]⟩, .string ⟨#[]⟩] 24) := ⟨_, rfl⟩
  have hB0 : Below w.heap.size w W0 := by rw [hW0]; exact (Below.refl _ _).alloc (Nat.le_refl _) _
  have hR : PairAt W0 w.heap.size 24 ⟨#[]⟩ ⟨#[]⟩ := by rw [hW0]; exact PairAt.made _ _ _ _
  go_enter Tryd.func28, Tryd.ntmps28
  go_wp2_with fail
  rw [← hW0]
  clear hW0
  refine (fCut_any s W0 (hG.below hB0) hs).mono ?_
  rintro _ _ ⟨b, q, rfl, rfl⟩
  obtain ⟨W1, hW1⟩ : ∃ W1, W1 = W0.drewN q := ⟨_, rfl⟩
  have hB1 : Below w.heap.size w W1 := by rw [hW1]; exact below_drewN hB0 q
  have hR1 : PairAt W1 w.heap.size 24 ⟨#[]⟩ ⟨#[]⟩ := by rw [hW1]; exact hR
  rw [← hW1]
  clear hW1 hB0 hR
  go_wp2_with fail
  refine (fValue_any (numS s) (denS s) W1 65537 (by omega) (by omega) (by decide)).mono ?_
  rintro _ w2 ⟨x, y, rfl, e1, e2, e3, e4, hB⟩
  have hR2 := hR1.below hB
  have hB2 := hB1.trans (hB.mono hB1.size)
  have HE1 := Lib.hid e1
  have HE2 := Lib.hid e2
  clear hB hB1 hR1 e1 e2
  go_wp2_with fail
  refine (show Calls _ _ _ w2 (fun e w' => e = .returned (.agg #[.string (cS (parseV s).1), .string (cS (parseV s).2)]) ∧ Below w2.heap.size w2 w') from fLowest_v w2 (hG.below hB2) (by omega) (by omega) HE1.out HE2.out HP.out).mono ?_
  rintro _ w3 ⟨rfl, hB⟩
  have hR3 := hR2.below hB
  have hB3 := hB2.trans (hB.mono hB2.size)
  clear hB hB2 hR2
  go_wp2_with fail
  obtain ⟨B, hB8⟩ : ∃ B, B = w3.heap.size := ⟨_, rfl⟩
  obtain ⟨W4, hW4⟩ : ∃ W4, W4 = w3.alloc (.cells #[.string (cS (parseV s).1), .string (cS (parseV s).2)] 54) := ⟨_, rfl⟩
  have hBx : Below w3.heap.size w3 W4 := by rw [hW4]; exact (Below.refl _ _).alloc (Nat.le_refl _) _
  have hX4 : PairAt W4 B 54 (cS (parseV s).1) (cS (parseV s).2) := by rw [hW4, hB8]; exact PairAt.made _ _ _ _
  have hR4 := hR3.below hBx
  have hB4 := hB3.trans (hBx.mono hB3.size)
  rw [← hB8, ← hW4]
  clear hW4 hB8 hBx hB3 hR3
  refine (fText_any (parseV s) W4 HC.out).mono ?_
  rintro _ w5 ⟨rfl, hB⟩
  have hX5 := hX4.below hB
  have hR5 := hR4.below hB
  have hB5 := hB4.trans (hB.mono hB4.size)
  clear hB hB4 hR4 hX4
  obtain ⟨c0, c1, _, _⟩ := hX5.cells
  obtain ⟨r0, r1, r2, r3⟩ := hR5.cells
  obtain ⟨t, ht⟩ : ∃ t, t = textP (parseV s) := ⟨_, rfl⟩
  have hne : (t.toList == s.toList) = false := by rw [ht]; exact eq_str _ _ HG.out
  rw [← ht]
  clear ht
  go_wp2_with fail
  obtain ⟨k0, k1, _, _⟩ := (hR5.put ⟨#[]⟩ ⟨#[]⟩).cells
  exact bodyPost_ret (v := .tuple #[.agg #[.string ⟨#[]⟩, .string ⟨#[]⟩], .int .i64 3]) (by simp [results, Tryd.results28, go_sem, k0, k1]) rfl ⟨rfl, below_put hB5 (Nat.le_refl _) _ _⟩

end Go.Proofs.YtldohkfomdcpoaaDoor
