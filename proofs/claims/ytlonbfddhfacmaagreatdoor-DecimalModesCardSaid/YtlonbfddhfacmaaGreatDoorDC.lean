/- The program's layer 3: write: the walk. -/
import Derived.Test.YtlonbfddhfacmaaGreatDoorDB
namespace Go.Proofs.YtlonbfddhfacmaaGreatDoor
open Go.RowKit Fra

theorem cutP_itoa (z : Int) (w : World) :
    Calls Tryz.prog 105 #[.string (pS z), .string ⟨#[45]⟩] w fun e w' => e = .returned (.tuple #[.string ⟨(Lib.decDigits z.natAbs).toArray⟩, .bool (decide (z < 0))]) ∧ w = w' := by
  have h := Tryz.strings_CutPrefix (pS z) ⟨#[45]⟩ w
  have e := cut_shelf (pS z).data.toList
  rw [pS_list, Num.cut_itoa] at e
  have e1 := (Prod.mk.inj e).1
  have e2 := (Prod.mk.inj e).2
  rw [pS_list, show (ByteArray.mk #[45]).data.toList = [45] from rfl, ← e1, ← e2] at h
  exact h.mono fun _ _ k => ⟨k.1, k.2.symm⟩

/-- a builder that this call has made, and what it holds -/
abbrev Bld (w W : World) (b : Nat) (l : List UInt8) : Prop := Lib.IsBuilder 119 5 w.heap.size b (Lib.byteCells l) W
theorem wByte {w W : World} {b : Nat} {l : List UInt8} (c : UInt8) (h : Bld w W b l) (hl : l.length ≤ 1000000) (hb : Below w.heap.size w W) :
    Calls Tryz.prog 107 #[.pointer (some ⟨b, 0, none⟩), .int .u8 c.toNat] W fun e w' => e = .returned .nilIface ∧ Bld w w' b (l ++ [c]) ∧ Below w.heap.size w w' := by
  refine (Tryz.Builder_WriteByte w.heap.size b (Lib.byteCells l) (c.toNat : Int) W h (by rw [Lib.byteCells_length]; omega) hb.size).mono ?_
  rintro e w' ⟨rfl, h1, h2⟩
  refine ⟨rfl, Or.inr ?_, hb.trans h2⟩
  rw [Lib.byteCells_append]
  exact h1
theorem wString {w W : World} {b : Nat} {l : List UInt8} (s : ByteArray) (h : Bld w W b l) (hl : l.length + s.size ≤ 10000000) (hb : Below w.heap.size w W) :
    Calls Tryz.prog 108 #[.pointer (some ⟨b, 0, none⟩), .string s] W fun e w' => e = .returned (.tuple #[.int .i64 s.size, .nilIface]) ∧ Bld w w' b (l ++ s.data.toList) ∧ Below w.heap.size w w' := by
  refine (Tryz.Builder_WriteString w.heap.size b (Lib.byteCells l) s W h (by rw [Lib.byteCells_length]; omega) hb.size).mono ?_
  rintro e w' ⟨rfl, h1, h2⟩
  refine ⟨rfl, Or.inr ?_, hb.trans h2⟩
  rw [Lib.byteCells_append, ← Lib.strCells_eq]
  exact h1
theorem wDone {w W : World} {b : Nat} {l : List UInt8} (h : Bld w W b l) (hb : Below w.heap.size w W) :
    Calls Tryz.prog 109 #[.pointer (some ⟨b, 0, none⟩)] W fun e w' => e = .returned (.string ⟨l.toArray⟩) ∧ Below w.heap.size w w' := by
  refine (Tryz.Builder_String_any w.heap.size b l W h hb.size).mono ?_
  rintro e w' ⟨rfl, h2⟩
  exact ⟨rfl, hb.trans h2⟩
theorem Bld.made (w : World) : Bld w (w.alloc (.cells #[.pointer none, .slice none 0 0] 119)) w.heap.size [] := Lib.fresh_isBuilder _ _ w

theorem Bld.other {w W V : World} {b : Nat} {l : List UInt8} (h : Bld w W b l) (hV : Below W.heap.size W V) : Bld w V b l := by
  have key : ∀ p, Lib.BuilderAt 119 5 w.heap.size b p (Lib.byteCells l) W → Lib.BuilderAt 119 5 w.heap.size b p (Lib.byteCells l) V := by
    rintro p ⟨h1, v, h2, h3, h4⟩
    refine ⟨h1, v, ?_, ?_, h4⟩
    · rw [hV.block b (Lib.BuilderAt.lt ⟨h1, v, h2, h3, h4⟩)]; exact h2
    · exact h3.kept (grown_of_below hV none) (by by_cases k : v.ownBlock = none; exact Or.inl k; exact Or.inr k)
  exact h.imp (key _) (key _)

/-- what write puts together -/
structure WriteAt (z : Int) (p : Nat) (D X A F : ByteArray) (k L : Nat) : Prop where
  eD : D = ⟨(Lib.decDigits z.natAbs).toArray⟩
  mx : max (0 : Int) ((p : Int) + 1 - D.size) = k
  eX : (ByteArray.mk (List.replicate k (48 : UInt8)).toArray) ++ D = X
  size : X.size = L + p
  pos : 0 < L
  small : X.size ≤ 200000
  dsmall : D.size ≤ 100001
  ksmall : k ≤ 100000
  eA : X.extract 0 L = A
  eF : X.extract L X.size = F
  AL : A.data.toList = Lib.decDigits (z.natAbs / 10 ^ p)
  FL : F.data.toList = Num.fixd p z.natAbs
  sA : A.size ≤ 200000
  sF : F.size ≤ 200000
theorem WriteAt.of (z : Int) (p : Nat) (hd : (Lib.decDigits z.natAbs).length ≤ 100001) (hp : p ≤ 65536) : ∃ D X A F k L, WriteAt z p D X A F k L := by
  obtain ⟨D, hD⟩ : ∃ D, D = ByteArray.mk (Lib.decDigits z.natAbs).toArray := ⟨_, rfl⟩
  have hDl : D.data.toList = Lib.decDigits z.natAbs := by rw [hD]
  have hDs : D.size = (Lib.decDigits z.natAbs).length := by rw [← size_toList, hDl]
  obtain ⟨k, hk⟩ : ∃ k, k = p + 1 - (Lib.decDigits z.natAbs).length := ⟨_, rfl⟩
  obtain ⟨X, hX⟩ : ∃ X, (ByteArray.mk (List.replicate k (48 : UInt8)).toArray) ++ D = X := ⟨_, rfl⟩
  have hXl : X.data.toList = Lib.decDigits (z.natAbs / 10 ^ p) ++ Num.fixd p z.natAbs := by
    rw [← Num.pad_print, ← hX, ByteArray.data_append, Array.toList_append, hDl, hk]
  have h1 := Num.at_point z.natAbs p
  rw [← hXl, size_toList] at h1
  obtain ⟨L, hL⟩ : ∃ L, L = (Lib.decDigits (z.natAbs / 10 ^ p)).length := ⟨_, rfl⟩
  have hsz : X.size = L + p := by omega
  have hXs : X.size = k + D.size := by
    rw [← hX, ByteArray.size_append]
    show (List.replicate k (48 : UInt8)).toArray.size + D.size = _
    simp
  have hA : (X.extract 0 L).data.toList = Lib.decDigits (z.natAbs / 10 ^ p) := by
    rw [ByteArray.data_extract, Array.toList_extract, List.extract_eq_take_drop, hXl, hL]
    simp
  have hF : (X.extract L X.size).data.toList = Num.fixd p z.natAbs := by
    rw [ByteArray.data_extract, Array.toList_extract, List.extract_eq_take_drop, hXl, hsz, hL]
    simp
    rw [List.take_of_length_le (by rw [Num.fixd_length]; exact Nat.le_refl _)]
  refine ⟨D, X, _, _, k, L, hD, by omega, hX, hsz, ?_, by omega, by omega, by omega, rfl, rfl, hA, hF, ?_, ?_⟩
  · rw [hL]; exact List.length_pos_iff.mpr (Num.decDigits_ne _)
  · rw [← size_toList, hA]; omega
  · rw [← size_toList, hF, Num.fixd_length]; omega

set_option maxRecDepth 100000 in
set_option maxHeartbeats 1000000 in
theorem dWrite_n0 (s : ByteArray) (z : Int) (p : Nat) (w : World) (hs : s.size ≤ 4294967295) (hz : vS s = z) (hd : (Lib.decDigits z.natAbs).length ≤ 100001) (hp : p ≤ 65536) (hn : z < 0) (hp0 : p = 0) :
    Calls Tryz.prog 60 #[.string s, .int .i64 (p : Int)] w fun e w' => e = .returned (.string ⟨(Num.decT z p).toArray⟩) ∧ Below w.heap.size w w' := by
  obtain ⟨D, X, A, F, k, L, hW⟩ := WriteAt.of z p hd hp
  have HE := Lib.hid (show Num.decT z p = (([] ++ [45]) ++ A.data.toList) by rw [Num.decT_list, if_pos hn, if_pos hp0, hW.AL]; simp)
  have hdl := hW.dsmall
  have hks := hW.ksmall
  have HM := Lib.hid (show max (0 : Int) (1 - (D.size : Int)) = (k : Int) by have := hW.mx; omega)
  have HXS := Lib.hid hW.small
  have HSZ := Lib.hid hW.size
  have HL := Lib.hid hW.pos
  obtain ⟨r, hr⟩ : ∃ r, r = ByteArray.mk (List.replicate k (48 : UInt8)).toArray := ⟨_, rfl⟩
  have HR := Lib.hid (show ByteArray.mk (Lib.repeatL (ByteArray.mk #[48]).data.toList k).toArray = r by rw [hr, ← repeat_zero])
  have HX := Lib.hid (show r ++ D = X by rw [hr]; exact hW.eX)
  have HRS := Lib.hid (show r.size = k by rw [hr]; show (List.replicate k (48 : UInt8)).toArray.size = k; simp)
  have HD := Lib.hid hW.eD
  have HA := Lib.hid (And.intro hW.eA hW.sA)
  have HF := Lib.hid (And.intro hW.eF hW.sF)
  have HAL := Lib.hid (show A.data.toList.length ≤ 200000 by rw [size_toList]; exact hW.sA)
  have HZ := Lib.hid hz
  subst hp0
  have HN := Lib.hid (decide_eq_true hn)
  clear hz hW hr hd hn
  go_enter Tryz.func60, Tryz.ntmps60
  go_wp2_with fail
  refine (print_any s w (by omega)).mono ?_
  rintro _ _ ⟨rfl, rfl⟩
  rw [HZ.out]
  go_wp2_with fail
  refine (cutP_itoa z w).mono ?_
  rintro _ _ ⟨rfl, rfl⟩
  rw [HN.out, ← HD.out]
  go_wp2_with fail
  have hT := Bld.made w
  have hB : Below w.heap.size w (w.alloc (.cells #[.pointer none, .slice none 0 0] 119)) := (Below.refl _ _).alloc (Nat.le_refl _) _
  obtain ⟨b, hb⟩ : ∃ b, b = w.heap.size := ⟨_, rfl⟩
  obtain ⟨W1, hW1⟩ : ∃ W1, W1 = w.alloc (.cells #[.pointer none, .slice none 0 0] 119) := ⟨_, rfl⟩
  replace hT : Bld w W1 b [] := by rw [hW1, hb]; exact hT
  replace hB : Below w.heap.size w W1 := by rw [hW1]; exact hB
  rw [← hW1, ← hb]
  clear hW1 hb
  refine (wByte 45 hT (by first | decide | omega | (simp; done) | (simp; omega)) hB).mono ?_
  rintro _ W2 ⟨rfl, hT2, hB2⟩
  clear hT hB
  have hT := hT2
  have hB := hB2
  clear hT2 hB2
  go_wp2_with fail
  rw [HM.out]
  refine (Tryz.strings_Repeat ⟨#[48]⟩ k W2 (by omega) (by show 1 * k ≤ _; omega)).mono ?_
  rintro _ V ⟨rfl, hV⟩
  rw [HR.out]
  replace hT := Bld.other hT hV
  replace hB := hB.trans (hV.mono hB.size)
  clear hV
  have hb1 : ¬ 9223372036854775807 < r.size + D.size := by have := HRS.out; omega
  go_upto_region 6 with fail
  rw [HX.out]
  clear hb1 hdl hks
  have hxs := HXS.out
  obtain ⟨W3, hVW⟩ : ∃ W, W = V := ⟨_, rfl⟩
  rw [← hVW] at hT hB
  rw [← hVW]
  clear hVW
  go_wp2_with fail
  rw [show X = A by have := HA.out.1; rw [show L = X.size by have := HSZ.out; omega] at this; simpa using this]
  have hsa := HA.out.2
  refine (wString A hT (by first | decide | omega | (simp; done) | (simp; omega)) hB).mono ?_
  rintro _ W4 ⟨rfl, hT2, hB2⟩
  clear hT hB
  have hT := hT2
  have hB := hB2
  clear hT2 hB2
  clear hsa
  go_wp2_with fail
  refine (wDone hT hB).mono ?_
  rintro _ U ⟨rfl, hU⟩
  go_wp2_with fail
  go_ret
  exact ⟨by rw [HE.out]; first | rfl | simp, hU⟩

set_option maxRecDepth 100000 in
set_option maxHeartbeats 1000000 in
theorem dWrite_n1 (s : ByteArray) (z : Int) (p : Nat) (w : World) (hs : s.size ≤ 4294967295) (hz : vS s = z) (hd : (Lib.decDigits z.natAbs).length ≤ 100001) (hp : p ≤ 65536) (hn : z < 0) (hp0 : 0 < p) :
    Calls Tryz.prog 60 #[.string s, .int .i64 (p : Int)] w fun e w' => e = .returned (.string ⟨(Num.decT z p).toArray⟩) ∧ Below w.heap.size w w' := by
  obtain ⟨D, X, A, F, k, L, hW⟩ := WriteAt.of z p hd hp
  have HE := Lib.hid (show Num.decT z p = (((([] ++ [45]) ++ A.data.toList) ++ [46]) ++ F.data.toList) by rw [Num.decT_list, if_pos hn, if_neg (by omega), hW.AL, hW.FL]; simp)
  have hdl := hW.dsmall
  have hks := hW.ksmall
  have HM := Lib.hid hW.mx
  have HXS := Lib.hid hW.small
  have HSZ := Lib.hid hW.size
  have HL := Lib.hid hW.pos
  obtain ⟨r, hr⟩ : ∃ r, r = ByteArray.mk (List.replicate k (48 : UInt8)).toArray := ⟨_, rfl⟩
  have HR := Lib.hid (show ByteArray.mk (Lib.repeatL (ByteArray.mk #[48]).data.toList k).toArray = r by rw [hr, ← repeat_zero])
  have HX := Lib.hid (show r ++ D = X by rw [hr]; exact hW.eX)
  have HRS := Lib.hid (show r.size = k by rw [hr]; show (List.replicate k (48 : UInt8)).toArray.size = k; simp)
  have HD := Lib.hid hW.eD
  have HA := Lib.hid (And.intro hW.eA hW.sA)
  have HF := Lib.hid (And.intro hW.eF hW.sF)
  have HAL := Lib.hid (show A.data.toList.length ≤ 200000 by rw [size_toList]; exact hW.sA)
  have HZ := Lib.hid hz
  have HN := Lib.hid (decide_eq_true hn)
  clear hz hW hr hd hn
  go_enter Tryz.func60, Tryz.ntmps60
  go_wp2_with fail
  refine (print_any s w (by omega)).mono ?_
  rintro _ _ ⟨rfl, rfl⟩
  rw [HZ.out]
  go_wp2_with fail
  refine (cutP_itoa z w).mono ?_
  rintro _ _ ⟨rfl, rfl⟩
  rw [HN.out, ← HD.out]
  go_wp2_with fail
  have hT := Bld.made w
  have hB : Below w.heap.size w (w.alloc (.cells #[.pointer none, .slice none 0 0] 119)) := (Below.refl _ _).alloc (Nat.le_refl _) _
  obtain ⟨b, hb⟩ : ∃ b, b = w.heap.size := ⟨_, rfl⟩
  obtain ⟨W1, hW1⟩ : ∃ W1, W1 = w.alloc (.cells #[.pointer none, .slice none 0 0] 119) := ⟨_, rfl⟩
  replace hT : Bld w W1 b [] := by rw [hW1, hb]; exact hT
  replace hB : Below w.heap.size w W1 := by rw [hW1]; exact hB
  rw [← hW1, ← hb]
  clear hW1 hb
  refine (wByte 45 hT (by first | decide | omega | (simp; done) | (simp; omega)) hB).mono ?_
  rintro _ W2 ⟨rfl, hT2, hB2⟩
  clear hT hB
  have hT := hT2
  have hB := hB2
  clear hT2 hB2
  go_wp2_with fail
  rw [HM.out]
  refine (Tryz.strings_Repeat ⟨#[48]⟩ k W2 (by omega) (by show 1 * k ≤ _; omega)).mono ?_
  rintro _ V ⟨rfl, hV⟩
  rw [HR.out]
  replace hT := Bld.other hT hV
  replace hB := hB.trans (hV.mono hB.size)
  clear hV
  have hb1 : ¬ 9223372036854775807 < r.size + D.size := by have := HRS.out; omega
  go_upto_region 6 with fail
  rw [HX.out]
  clear hb1 hdl hks
  have hxs := HXS.out
  have hpt : IntKind.i64.wrap ((X.size : Int) - p) = (L : Int) := by have := HSZ.out; rw [IntWalk.i64_in _ (by omega)]; omega
  have hlx : L ≤ X.size := by have := HSZ.out; omega
  obtain ⟨W3, hVW⟩ : ∃ W, W = V := ⟨_, rfl⟩
  rw [← hVW] at hT hB
  rw [← hVW]
  clear hVW
  go_wp2_with fail
  rw [HA.out.1]
  have hsa := HA.out.2
  refine (wString A hT (by first | decide | omega | (simp; done) | (simp; omega)) hB).mono ?_
  rintro _ W4 ⟨rfl, hT2, hB2⟩
  clear hT hB
  have hT := hT2
  have hB := hB2
  clear hT2 hB2
  clear hsa
  go_wp2_with fail
  have hal := HAL.out
  have hal2 := HA.out.2
  refine (wByte 46 hT (by first | decide | omega | (simp; done) | (simp; omega)) hB).mono ?_
  rintro _ W5 ⟨rfl, hT2, hB2⟩
  clear hT hB
  have hT := hT2
  have hB := hB2
  clear hT2 hB2
  go_wp2_with fail
  rw [HF.out.1]
  have hsf := HF.out.2
  refine (wString F hT (by first | decide | omega | (simp; done) | (simp; omega)) hB).mono ?_
  rintro _ W6 ⟨rfl, hT2, hB2⟩
  clear hT hB
  have hT := hT2
  have hB := hB2
  clear hT2 hB2
  clear hsf hal hal2
  go_wp2_with fail
  refine (wDone hT hB).mono ?_
  rintro _ U ⟨rfl, hU⟩
  go_wp2_with fail
  go_ret
  exact ⟨by rw [HE.out]; first | rfl | simp, hU⟩

set_option maxRecDepth 100000 in
set_option maxHeartbeats 1000000 in
theorem dWrite_p0 (s : ByteArray) (z : Int) (p : Nat) (w : World) (hs : s.size ≤ 4294967295) (hz : vS s = z) (hd : (Lib.decDigits z.natAbs).length ≤ 100001) (hp : p ≤ 65536) (hn : ¬ z < 0) (hp0 : p = 0) :
    Calls Tryz.prog 60 #[.string s, .int .i64 (p : Int)] w fun e w' => e = .returned (.string ⟨(Num.decT z p).toArray⟩) ∧ Below w.heap.size w w' := by
  obtain ⟨D, X, A, F, k, L, hW⟩ := WriteAt.of z p hd hp
  have HE := Lib.hid (show Num.decT z p = ([] ++ A.data.toList) by rw [Num.decT_list, if_neg hn, if_pos hp0, hW.AL]; simp)
  have hdl := hW.dsmall
  have hks := hW.ksmall
  have HM := Lib.hid (show max (0 : Int) (1 - (D.size : Int)) = (k : Int) by have := hW.mx; omega)
  have HXS := Lib.hid hW.small
  have HSZ := Lib.hid hW.size
  have HL := Lib.hid hW.pos
  obtain ⟨r, hr⟩ : ∃ r, r = ByteArray.mk (List.replicate k (48 : UInt8)).toArray := ⟨_, rfl⟩
  have HR := Lib.hid (show ByteArray.mk (Lib.repeatL (ByteArray.mk #[48]).data.toList k).toArray = r by rw [hr, ← repeat_zero])
  have HX := Lib.hid (show r ++ D = X by rw [hr]; exact hW.eX)
  have HRS := Lib.hid (show r.size = k by rw [hr]; show (List.replicate k (48 : UInt8)).toArray.size = k; simp)
  have HD := Lib.hid hW.eD
  have HA := Lib.hid (And.intro hW.eA hW.sA)
  have HF := Lib.hid (And.intro hW.eF hW.sF)
  have HAL := Lib.hid (show A.data.toList.length ≤ 200000 by rw [size_toList]; exact hW.sA)
  have HZ := Lib.hid hz
  subst hp0
  have HN := Lib.hid (decide_eq_false hn)
  clear hz hW hr hd hn
  go_enter Tryz.func60, Tryz.ntmps60
  go_wp2_with fail
  refine (print_any s w (by omega)).mono ?_
  rintro _ _ ⟨rfl, rfl⟩
  rw [HZ.out]
  go_wp2_with fail
  refine (cutP_itoa z w).mono ?_
  rintro _ _ ⟨rfl, rfl⟩
  rw [HN.out, ← HD.out]
  go_upto_region 5 with fail
  have hT := Bld.made w
  have hB : Below w.heap.size w (w.alloc (.cells #[.pointer none, .slice none 0 0] 119)) := (Below.refl _ _).alloc (Nat.le_refl _) _
  obtain ⟨b, hb⟩ : ∃ b, b = w.heap.size := ⟨_, rfl⟩
  obtain ⟨W1, hW1⟩ : ∃ W1, W1 = w.alloc (.cells #[.pointer none, .slice none 0 0] 119) := ⟨_, rfl⟩
  replace hT : Bld w W1 b [] := by rw [hW1, hb]; exact hT
  replace hB : Below w.heap.size w W1 := by rw [hW1]; exact hB
  rw [← hW1, ← hb]
  clear hW1 hb
  go_wp2_with fail
  rw [HM.out]
  refine (Tryz.strings_Repeat ⟨#[48]⟩ k W1 (by omega) (by show 1 * k ≤ _; omega)).mono ?_
  rintro _ V ⟨rfl, hV⟩
  rw [HR.out]
  replace hT := Bld.other hT hV
  replace hB := hB.trans (hV.mono hB.size)
  clear hV
  have hb1 : ¬ 9223372036854775807 < r.size + D.size := by have := HRS.out; omega
  go_upto_region 6 with fail
  rw [HX.out]
  clear hb1 hdl hks
  have hxs := HXS.out
  obtain ⟨W2, hVW⟩ : ∃ W, W = V := ⟨_, rfl⟩
  rw [← hVW] at hT hB
  rw [← hVW]
  clear hVW
  go_wp2_with fail
  rw [show X = A by have := HA.out.1; rw [show L = X.size by have := HSZ.out; omega] at this; simpa using this]
  have hsa := HA.out.2
  refine (wString A hT (by first | decide | omega | (simp; done) | (simp; omega)) hB).mono ?_
  rintro _ W3 ⟨rfl, hT2, hB2⟩
  clear hT hB
  have hT := hT2
  have hB := hB2
  clear hT2 hB2
  clear hsa
  go_wp2_with fail
  refine (wDone hT hB).mono ?_
  rintro _ U ⟨rfl, hU⟩
  go_wp2_with fail
  go_ret
  exact ⟨by rw [HE.out]; first | rfl | simp, hU⟩

set_option maxRecDepth 100000 in
set_option maxHeartbeats 1000000 in
theorem dWrite_p1 (s : ByteArray) (z : Int) (p : Nat) (w : World) (hs : s.size ≤ 4294967295) (hz : vS s = z) (hd : (Lib.decDigits z.natAbs).length ≤ 100001) (hp : p ≤ 65536) (hn : ¬ z < 0) (hp0 : 0 < p) :
    Calls Tryz.prog 60 #[.string s, .int .i64 (p : Int)] w fun e w' => e = .returned (.string ⟨(Num.decT z p).toArray⟩) ∧ Below w.heap.size w w' := by
  obtain ⟨D, X, A, F, k, L, hW⟩ := WriteAt.of z p hd hp
  have HE := Lib.hid (show Num.decT z p = ((([] ++ A.data.toList) ++ [46]) ++ F.data.toList) by rw [Num.decT_list, if_neg hn, if_neg (by omega), hW.AL, hW.FL]; simp)
  have hdl := hW.dsmall
  have hks := hW.ksmall
  have HM := Lib.hid hW.mx
  have HXS := Lib.hid hW.small
  have HSZ := Lib.hid hW.size
  have HL := Lib.hid hW.pos
  obtain ⟨r, hr⟩ : ∃ r, r = ByteArray.mk (List.replicate k (48 : UInt8)).toArray := ⟨_, rfl⟩
  have HR := Lib.hid (show ByteArray.mk (Lib.repeatL (ByteArray.mk #[48]).data.toList k).toArray = r by rw [hr, ← repeat_zero])
  have HX := Lib.hid (show r ++ D = X by rw [hr]; exact hW.eX)
  have HRS := Lib.hid (show r.size = k by rw [hr]; show (List.replicate k (48 : UInt8)).toArray.size = k; simp)
  have HD := Lib.hid hW.eD
  have HA := Lib.hid (And.intro hW.eA hW.sA)
  have HF := Lib.hid (And.intro hW.eF hW.sF)
  have HAL := Lib.hid (show A.data.toList.length ≤ 200000 by rw [size_toList]; exact hW.sA)
  have HZ := Lib.hid hz
  have HN := Lib.hid (decide_eq_false hn)
  clear hz hW hr hd hn
  go_enter Tryz.func60, Tryz.ntmps60
  go_wp2_with fail
  refine (print_any s w (by omega)).mono ?_
  rintro _ _ ⟨rfl, rfl⟩
  rw [HZ.out]
  go_wp2_with fail
  refine (cutP_itoa z w).mono ?_
  rintro _ _ ⟨rfl, rfl⟩
  rw [HN.out, ← HD.out]
  go_upto_region 5 with fail
  have hT := Bld.made w
  have hB : Below w.heap.size w (w.alloc (.cells #[.pointer none, .slice none 0 0] 119)) := (Below.refl _ _).alloc (Nat.le_refl _) _
  obtain ⟨b, hb⟩ : ∃ b, b = w.heap.size := ⟨_, rfl⟩
  obtain ⟨W1, hW1⟩ : ∃ W1, W1 = w.alloc (.cells #[.pointer none, .slice none 0 0] 119) := ⟨_, rfl⟩
  replace hT : Bld w W1 b [] := by rw [hW1, hb]; exact hT
  replace hB : Below w.heap.size w W1 := by rw [hW1]; exact hB
  rw [← hW1, ← hb]
  clear hW1 hb
  go_wp2_with fail
  rw [HM.out]
  refine (Tryz.strings_Repeat ⟨#[48]⟩ k W1 (by omega) (by show 1 * k ≤ _; omega)).mono ?_
  rintro _ V ⟨rfl, hV⟩
  rw [HR.out]
  replace hT := Bld.other hT hV
  replace hB := hB.trans (hV.mono hB.size)
  clear hV
  have hb1 : ¬ 9223372036854775807 < r.size + D.size := by have := HRS.out; omega
  go_upto_region 6 with fail
  rw [HX.out]
  clear hb1 hdl hks
  have hxs := HXS.out
  have hpt : IntKind.i64.wrap ((X.size : Int) - p) = (L : Int) := by have := HSZ.out; rw [IntWalk.i64_in _ (by omega)]; omega
  have hlx : L ≤ X.size := by have := HSZ.out; omega
  obtain ⟨W2, hVW⟩ : ∃ W, W = V := ⟨_, rfl⟩
  rw [← hVW] at hT hB
  rw [← hVW]
  clear hVW
  go_wp2_with fail
  rw [HA.out.1]
  have hsa := HA.out.2
  refine (wString A hT (by first | decide | omega | (simp; done) | (simp; omega)) hB).mono ?_
  rintro _ W3 ⟨rfl, hT2, hB2⟩
  clear hT hB
  have hT := hT2
  have hB := hB2
  clear hT2 hB2
  clear hsa
  go_wp2_with fail
  have hal := HAL.out
  have hal2 := HA.out.2
  refine (wByte 46 hT (by first | decide | omega | (simp; done) | (simp; omega)) hB).mono ?_
  rintro _ W4 ⟨rfl, hT2, hB2⟩
  clear hT hB
  have hT := hT2
  have hB := hB2
  clear hT2 hB2
  go_wp2_with fail
  rw [HF.out.1]
  have hsf := HF.out.2
  refine (wString F hT (by first | decide | omega | (simp; done) | (simp; omega)) hB).mono ?_
  rintro _ W5 ⟨rfl, hT2, hB2⟩
  clear hT hB
  have hT := hT2
  have hB := hB2
  clear hT2 hB2
  clear hsf hal hal2
  go_wp2_with fail
  refine (wDone hT hB).mono ?_
  rintro _ U ⟨rfl, hU⟩
  go_wp2_with fail
  go_ret
  exact ⟨by rw [HE.out]; first | rfl | simp, hU⟩

theorem dWrite_any (s : ByteArray) (z : Int) (p : Nat) (w : World) (hs : s.size ≤ 4294967295) (hz : vS s = z) (hd : (Lib.decDigits z.natAbs).length ≤ 100001) (hp : p ≤ 65536) :
    Calls Tryz.prog 60 #[.string s, .int .i64 (p : Int)] w fun e w' => e = .returned (.string ⟨(Num.decT z p).toArray⟩) ∧ Below w.heap.size w w' := by
  by_cases hn : z < 0
  · by_cases h0 : p = 0
    · exact dWrite_n0 s z p w hs hz hd hp hn h0
    · exact dWrite_n1 s z p w hs hz hd hp hn (by omega)
  · by_cases h0 : p = 0
    · exact dWrite_p0 s z p w hs hz hd hp hn h0
    · exact dWrite_p1 s z p w hs hz hd hp hn (by omega)

end Go.Proofs.YtlonbfddhfacmaaGreatDoor
