/- The program's layer 3: write: the walk. -/
import Derived.Test.YtahnkmkmoalbhaaGreatDoorZBI
namespace Go.Proofs.YtahnkmkmoalbhaaGreatDoor
open Go.RowKit Fra

theorem cutP_itoa (z : Int) (w : World) :
    Calls Tryz.prog 118 #[.string (pS z), .string ⟨#[45]⟩] w fun e w' => e = .returned (.tuple #[.string ⟨(Lib.decDigits z.natAbs).toArray⟩, .bool (decide (z < 0))]) ∧ w = w' := by
  have h := Tryz.strings_CutPrefix (pS z) ⟨#[45]⟩ w
  have e := cut_shelf (pS z).data.toList
  rw [pS_list, Num.cut_itoa] at e
  have e1 := (Prod.mk.inj e).1
  have e2 := (Prod.mk.inj e).2
  rw [pS_list, show (ByteArray.mk #[45]).data.toList = [45] from rfl, ← e1, ← e2] at h
  exact h.mono fun _ _ k => ⟨k.1, k.2.symm⟩

/-- a builder that this call has made, and what it holds -/
abbrev Bld (w W : World) (b : Nat) (l : List UInt8) : Prop := Lib.IsBuilder 145 5 w.heap.size b (Lib.byteCells l) W
theorem wByte {w W : World} {b : Nat} {l : List UInt8} (c : UInt8) (h : Bld w W b l) (hl : l.length ≤ 1000000) (hb : Below w.heap.size w W) :
    Calls Tryz.prog 121 #[.pointer (some ⟨b, 0, none⟩), .int .u8 c.toNat] W fun e w' => e = .returned .nilIface ∧ Bld w w' b (l ++ [c]) ∧ Below w.heap.size w w' := by
  refine (Tryz.Builder_WriteByte w.heap.size b (Lib.byteCells l) (c.toNat : Int) W h (by rw [Lib.byteCells_length]; omega) hb.size).mono ?_
  rintro e w' ⟨rfl, h1, h2⟩
  refine ⟨rfl, Or.inr ?_, hb.trans h2⟩
  rw [Lib.byteCells_append]
  exact h1
theorem wString {w W : World} {b : Nat} {l : List UInt8} (s : ByteArray) (h : Bld w W b l) (hl : l.length + s.size ≤ 10000000) (hb : Below w.heap.size w W) :
    Calls Tryz.prog 122 #[.pointer (some ⟨b, 0, none⟩), .string s] W fun e w' => e = .returned (.tuple #[.int .i64 s.size, .nilIface]) ∧ Bld w w' b (l ++ s.data.toList) ∧ Below w.heap.size w w' := by
  refine (Tryz.Builder_WriteString w.heap.size b (Lib.byteCells l) s W h (by rw [Lib.byteCells_length]; omega) hb.size).mono ?_
  rintro e w' ⟨rfl, h1, h2⟩
  refine ⟨rfl, Or.inr ?_, hb.trans h2⟩
  rw [Lib.byteCells_append, ← Lib.strCells_eq]
  exact h1
theorem wDone {w W : World} {b : Nat} {l : List UInt8} (h : Bld w W b l) (hb : Below w.heap.size w W) :
    Calls Tryz.prog 123 #[.pointer (some ⟨b, 0, none⟩)] W fun e w' => e = .returned (.string ⟨l.toArray⟩) ∧ Below w.heap.size w w' := by
  refine (Tryz.Builder_String_any w.heap.size b l W h hb.size).mono ?_
  rintro e w' ⟨rfl, h2⟩
  exact ⟨rfl, hb.trans h2⟩
theorem Bld.made (w : World) : Bld w (w.alloc (.cells #[.pointer none, .slice none 0 0] 145)) w.heap.size [] := Lib.fresh_isBuilder _ _ w

theorem Bld.other {w W V : World} {b : Nat} {l : List UInt8} (h : Bld w W b l) (hV : Below W.heap.size W V) : Bld w V b l := by
  have key : ∀ p, Lib.BuilderAt 145 5 w.heap.size b p (Lib.byteCells l) W → Lib.BuilderAt 145 5 w.heap.size b p (Lib.byteCells l) V := by
    rintro p ⟨h1, v, h2, h3, h4⟩
    refine ⟨h1, v, ?_, ?_, h4⟩
    · rw [hV.block b (Lib.BuilderAt.lt ⟨h1, v, h2, h3, h4⟩)]; exact h2
    · exact h3.kept (grown_of_below hV none) (by by_cases k : v.ownBlock = none; exact Or.inl k; exact Or.inr k)
  exact h.imp (key _) (key _)

/-- what write puts together -/
structure WriteAt (z : Int) (p : Nat) (D X A F : ByteArray) (k L : Nat) : Prop where
  eD : D = ⟨(Lib.decDigits z.natAbs).toArray⟩
  mx : max (0 : Int) ((p : Int) + 1 - D.size) = k
  eX : (ByteArray.mk (List.replicate k (48 : UInt8)).toArray) ++ D = X
  size : X.size = L + p
  pos : 0 < L
  small : X.size ≤ 200000
  dsmall : D.size ≤ 100001
  ksmall : k ≤ 100000
  eA : X.extract 0 L = A
  eF : X.extract L X.size = F
  AL : A.data.toList = Lib.decDigits (z.natAbs / 10 ^ p)
  FL : F.data.toList = Num.fixd p z.natAbs
  sA : A.size ≤ 200000
  sF : F.size ≤ 200000
theorem WriteAt.of (z : Int) (p : Nat) (hd : (Lib.decDigits z.natAbs).length ≤ 100001) (hp : p ≤ 65536) : ∃ D X A F k L, WriteAt z p D X A F k L := by
  obtain ⟨D, hD⟩ : ∃ D, D = ByteArray.mk (Lib.decDigits z.natAbs).toArray := ⟨_, rfl⟩
  have hDl : D.data.toList = Lib.decDigits z.natAbs := by rw [hD]
  have hDs : D.size = (Lib.decDigits z.natAbs).length := by rw [← size_toList, hDl]
  obtain ⟨k, hk⟩ : ∃ k, k = p + 1 - (Lib.decDigits z.natAbs).length := ⟨_, rfl⟩
  obtain ⟨X, hX⟩ : ∃ X, (ByteArray.mk (List.replicate k (48 : UInt8)).toArray) ++ D = X := ⟨_, rfl⟩
  have hXl : X.data.toList = Lib.decDigits (z.natAbs / 10 ^ p) ++ Num.fixd p z.natAbs := by
    rw [← Num.pad_print, ← hX, ByteArray.data_append, Array.toList_append, hDl, hk]
  have h1 := Num.at_point z.natAbs p
  rw [← hXl, size_toList] at h1
  obtain ⟨L, hL⟩ : ∃ L, L = (Lib.decDigits (z.natAbs / 10 ^ p)).length := ⟨_, rfl⟩
  have hsz : X.size = L + p := by omega
  have hXs : X.size = k + D.size := by
    rw [← hX, ByteArray.size_append]
    show (List.replicate k (48 : UInt8)).toArray.size + D.size = _
    simp
  have hA : (X.extract 0 L).data.toList = Lib.decDigits (z.natAbs / 10 ^ p) := by
    rw [ByteArray.data_extract, Array.toList_extract, List.extract_eq_take_drop, hXl, hL]
    simp
  have hF : (X.extract L X.size).data.toList = Num.fixd p z.natAbs := by
    rw [ByteArray.data_extract, Array.toList_extract, List.extract_eq_take_drop, hXl, hsz, hL]
    simp
    rw [List.take_of_length_le (by rw [Num.fixd_length]; exact Nat.le_refl _)]
  refine ⟨D, X, _, _, k, L, hD, by omega, hX, hsz, ?_, by omega, by omega, by omega, rfl, rfl, hA, hF, ?_, ?_⟩
  · rw [hL]; exact List.length_pos_iff.mpr (Num.decDigits_ne _)
  · rw [← size_toList, hA]; omega
  · rw [← size_toList, hF, Num.fixd_length]; omega

set_option maxRecDepth 100000 in
set_option maxHeartbeats 1000000 in
theorem dWrite_n0 (s : ByteArray) (z : Int) (p : Nat) (w : World) (hs : s.size ≤ 4294967295) (hz : vS s = z) (hd : (Lib.decDigits z.natAbs).length ≤ 100001) (hp : p ≤ 65536) (hn : z < 0) (hp0 : p = 0) :
    Calls Tryz.prog 87 #[.string s, .int .i64 (p : Int)] w fun e w' => e = .returned (.string ⟨(Num.decT z p).toArray⟩) ∧ Below w.heap.size w w' := by
  obtain ⟨D, X, A, F, k, L, hW⟩ := WriteAt.of z p hd hp
  have HE := Lib.hid (show Num.decT z p = (([] ++ [45]) ++ A.data.toList) by rw [Num.decT_list, if_pos hn, if_pos hp0, hW.AL]; simp)
  have hdl := hW.dsmall
  have hks := hW.ksmall
  have HM := Lib.hid (show max (0 : Int) (1 - (D.size : Int)) = (k : Int) by have := hW.mx; omega)
  have HXS := Lib.hid hW.small
  have HSZ := Lib.hid hW.size
  have HL := Lib.hid hW.pos
  obtain ⟨r, hr⟩ : ∃ r, r = ByteArray.mk (List.replicate k (48 : UInt8)).toArray := ⟨_, rfl⟩
  have HR := Lib.hid (show ByteArray.mk (Lib.repeatL (ByteArray.mk #[48]).data.toList k).toArray = r by rw [hr, ← repeat_zero])
  have HX := Lib.hid (show r ++ D = X by rw [hr]; exact hW.eX)
  have HRS := Lib.hid (show r.size = k by rw [hr]; show (List.replicate k (48 : UInt8)).toArray.size = k; simp)
  have HD := Lib.hid hW.eD
  have HA := Lib.hid (And.intro hW.eA hW.sA)
  have HF := Lib.hid (And.intro hW.eF hW.sF)
  have HAL := Lib.hid (show A.data.toList.length ≤ 200000 by rw [size_toList]; exact hW.sA)
  have HZ := Lib.hid hz
  subst hp0
  have HN := Lib.hid (decide_eq_true hn)
  clear hz hW hr hd hn
  go_enter Tryz.func87, Tryz.ntmps87
  go_wp2_with fail
  refine (print_any s w (by omega)).mono ?_
  rintro _ _ ⟨rfl, rfl⟩
  rw [HZ.out]
  go_wp2_with fail
  refine (cutP_itoa z w).mono ?_
  rintro _ _ ⟨rfl, rfl⟩
  rw [HN.out, ← HD.out]
  go_wp2_with fail
  have hT := Bld.made w
  have hB : Below w.heap.size w (w.alloc (.cells #[.pointer none, .slice none 0 0] 145)) := (Below.refl _ _).alloc (Nat.le_refl _) _
  obtain ⟨b, hb⟩ : ∃ b, b = w.heap.size := ⟨_, rfl⟩
  obtain ⟨W1, hW1⟩ : ∃ W1, W1 = w.alloc (.cells #[.pointer none, .slice none 0 0] 145) := ⟨_, rfl⟩
  replace hT : Bld w W1 b [] := by rw [hW1, hb]; exact hT
  replace hB : Below w.heap.size w W1 := by rw [hW1]; exact hB
  rw [← hW1, ← hb]
  clear hW1 hb
  refine (wByte 45 hT (by first | decide | omega | (simp; done) | (simp; omega)) hB).mono ?_
  rintro _ W2 ⟨rfl, hT2, hB2⟩
  clear hT hB
  have hT := hT2
  have hB := hB2
  clear hT2 hB2
  go_wp2_with fail
  rw [HM.out]
  refine (Tryz.strings_Repeat ⟨#[48]⟩ k W2 (by omega) (by show 1 * k ≤ _; omega)).mono ?_
  rintro _ V ⟨rfl, hV⟩
  rw [HR.out]
  replace hT := Bld.other hT hV
  replace hB := hB.trans (hV.mono hB.size)
  clear hV
  have hb1 : ¬ 9223372036854775807 < r.size + D.size := by have := HRS.out; omega
  go_upto_region 6 with fail
  rw [HX.out]
  clear hb1 hdl hks
  have hxs := HXS.out
  obtain ⟨W3, hVW⟩ : ∃ W, W = V := ⟨_, rfl⟩
  rw [← hVW] at hT hB
  rw [← hVW]
  clear hVW
  go_wp2_with fail
  rw [show X = A by have := HA.out.1; rw [show L = X.size by have := HSZ.out; omega] at this; simpa using this]
  have hsa := HA.out.2
  refine (wString A hT (by first | decide | omega | (simp; done) | (simp; omega)) hB).mono ?_
  rintro _ W4 ⟨rfl, hT2, hB2⟩
  clear hT hB
  have hT := hT2
  have hB := hB2
  clear hT2 hB2
  clear hsa
  go_wp2_with fail
  refine (wDone hT hB).mono ?_
  rintro _ U ⟨rfl, hU⟩
  go_wp2_with fail
  go_ret
  exact ⟨by rw [HE.out]; first | rfl | simp, hU⟩

set_option maxRecDepth 100000 in
set_option maxHeartbeats 1000000 in
theorem dWrite_n1 (s : ByteArray) (z : Int) (p : Nat) (w : World) (hs : s.size ≤ 4294967295) (hz : vS s = z) (hd : (Lib.decDigits z.natAbs).length ≤ 100001) (hp : p ≤ 65536) (hn : z < 0) (hp0 : 0 < p) :
    Calls Tryz.prog 87 #[.string s, .int .i64 (p : Int)] w fun e w' => e = .returned (.string ⟨(Num.decT z p).toArray⟩) ∧ Below w.heap.size w w' := by
  obtain ⟨D, X, A, F, k, L, hW⟩ := WriteAt.of z p hd hp
  have HE := Lib.hid (show Num.decT z p = (((([] ++ [45]) ++ A.data.toList) ++ [46]) ++ F.data.toList) by rw [Num.decT_list, if_pos hn, if_neg (by omega), hW.AL, hW.FL]; simp)
  have hdl := hW.dsmall
  have hks := hW.ksmall
  have HM := Lib.hid hW.mx
  have HXS := Lib.hid hW.small
  have HSZ := Lib.hid hW.size
  have HL := Lib.hid hW.pos
  obtain ⟨r, hr⟩ : ∃ r, r = ByteArray.mk (List.replicate k (48 : UInt8)).toArray := ⟨_, rfl⟩
  have HR := Lib.hid (show ByteArray.mk (Lib.repeatL (ByteArray.mk #[48]).data.toList k).toArray = r by rw [hr, ← repeat_zero])
  have HX := Lib.hid (show r ++ D = X by rw [hr]; exact hW.eX)
  have HRS := Lib.hid (show r.size = k by rw [hr]; show (List.replicate k (48 : UInt8)).toArray.size = k; simp)
  have HD := Lib.hid hW.eD
  have HA := Lib.hid (And.intro hW.eA hW.sA)
  have HF := Lib.hid (And.intro hW.eF hW.sF)
  have HAL := Lib.hid (show A.data.toList.length ≤ 200000 by rw [size_toList]; exact hW.sA)
  have HZ := Lib.hid hz
  have HN := Lib.hid (decide_eq_true hn)
  clear hz hW hr hd hn
  go_enter Tryz.func87, Tryz.ntmps87
  go_wp2_with fail
  refine (print_any s w (by omega)).mono ?_
  rintro _ _ ⟨rfl, rfl⟩
  rw [HZ.out]
  go_wp2_with fail
  refine (cutP_itoa z w).mono ?_
  rintro _ _ ⟨rfl, rfl⟩
  rw [HN.out, ← HD.out]
  go_wp2_with fail
  have hT := Bld.made w
  have hB : Below w.heap.size w (w.alloc (.cells #[.pointer none, .slice none 0 0] 145)) := (Below.refl _ _).alloc (Nat.le_refl _) _
  obtain ⟨b, hb⟩ : ∃ b, b = w.heap.size := ⟨_, rfl⟩
  obtain ⟨W1, hW1⟩ : ∃ W1, W1 = w.alloc (.cells #[.pointer none, .slice none 0 0] 145) := ⟨_, rfl⟩
  replace hT : Bld w W1 b [] := by rw [hW1, hb]; exact hT
  replace hB : Below w.heap.size w W1 := by rw [hW1]; exact hB
  rw [← hW1, ← hb]
  clear hW1 hb
  refine (wByte 45 hT (by first | decide | omega | (simp; done) | (simp; omega)) hB).mono ?_
  rintro _ W2 ⟨rfl, hT2, hB2⟩
  clear hT hB
  have hT := hT2
  have hB := hB2
  clear hT2 hB2
  go_wp2_with fail
  rw [HM.out]
  refine (Tryz.strings_Repeat ⟨#[48]⟩ k W2 (by omega) (by show 1 * k ≤ _; omega)).mono ?_
  rintro _ V ⟨rfl, hV⟩
  rw [HR.out]
  replace hT := Bld.other hT hV
  replace hB := hB.trans (hV.mono hB.size)
  clear hV
  have hb1 : ¬ 9223372036854775807 < r.size + D.size := by have := HRS.out; omega
  go_upto_region 6 with fail
  rw [HX.out]
  clear hb1 hdl hks
  have hxs := HXS.out
  have hpt : IntKind.i64.wrap ((X.size : Int) - p) = (L : Int) := by have := HSZ.out; rw [IntWalk.i64_in _ (by omega)]; omega
  have hlx : L ≤ X.size := by have := HSZ.out; omega
  obtain ⟨W3, hVW⟩ : ∃ W, W = V := ⟨_, rfl⟩
  rw [← hVW] at hT hB
  rw [← hVW]
  clear hVW
  go_wp2_with fail
  rw [HA.out.1]
  have hsa := HA.out.2
  refine (wString A hT (by first | decide | omega | (simp; done) | (simp; omega)) hB).mono ?_
  rintro _ W4 ⟨rfl, hT2, hB2⟩
  clear hT hB
  have hT := hT2
  have hB := hB2
  clear hT2 hB2
  clear hsa
  go_wp2_with fail
  have hal := HAL.out
  have hal2 := HA.out.2
  refine (wByte 46 hT (by first | decide | omega | (simp; done) | (simp; omega)) hB).mono ?_
  rintro _ W5 ⟨rfl, hT2, hB2⟩
  clear hT hB
  have hT := hT2
  have hB := hB2
  clear hT2 hB2
  go_wp2_with fail
  rw [HF.out.1]
  have hsf := HF.out.2
  refine (wString F hT (by first | decide | omega | (simp; done) | (simp; omega)) hB).mono ?_
  rintro _ W6 ⟨rfl, hT2, hB2⟩
  clear hT hB
  have hT := hT2
  have hB := hB2
  clear hT2 hB2
  clear hsf hal hal2
  go_wp2_with fail
  refine (wDone hT hB).mono ?_
  rintro _ U ⟨rfl, hU⟩
  go_wp2_with fail
  go_ret
  exact ⟨by rw [HE.out]; first | rfl | simp, hU⟩

set_option maxRecDepth 100000 in
set_option maxHeartbeats 1000000 in
theorem dWrite_p0 (s : ByteArray) (z : Int) (p : Nat) (w : World) (hs : s.size ≤ 4294967295) (hz : vS s = z) (hd : (Lib.decDigits z.natAbs).length ≤ 100001) (hp : p ≤ 65536) (hn : ¬ z < 0) (hp0 : p = 0) :
    Calls Tryz.prog 87 #[.string s, .int .i64 (p : Int)] w fun e w' => e = .returned (.string ⟨(Num.decT z p).toArray⟩) ∧ Below w.heap.size w w' := by
  obtain ⟨D, X, A, F, k, L, hW⟩ := WriteAt.of z p hd hp
  have HE := Lib.hid (show Num.decT z p = ([] ++ A.data.toList) by rw [Num.decT_list, if_neg hn, if_pos hp0, hW.AL]; simp)
  have hdl := hW.dsmall
  have hks := hW.ksmall
  have HM := Lib.hid (show max (0 : Int) (1 - (D.size : Int)) = (k : Int) by have := hW.mx; omega)
  have HXS := Lib.hid hW.small
  have HSZ := Lib.hid hW.size
  have HL := Lib.hid hW.pos
  obtain ⟨r, hr⟩ : ∃ r, r = ByteArray.mk (List.replicate k (48 : UInt8)).toArray := ⟨_, rfl⟩
  have HR := Lib.hid (show ByteArray.mk (Lib.repeatL (ByteArray.mk #[48]).data.toList k).toArray = r by rw [hr, ← repeat_zero])
  have HX := Lib.hid (show r ++ D = X by rw [hr]; exact hW.eX)
  have HRS := Lib.hid (show r.size = k by rw [hr]; show (List.replicate k (48 : UInt8)).toArray.size = k; simp)
  have HD := Lib.hid hW.eD
  have HA := Lib.hid (And.intro hW.eA hW.sA)
  have HF := Lib.hid (And.intro hW.eF hW.sF)
  have HAL := Lib.hid (show A.data.toList.length ≤ 200000 by rw [size_toList]; exact hW.sA)
  have HZ := Lib.hid hz
  subst hp0
  have HN := Lib.hid (decide_eq_false hn)
  clear hz hW hr hd hn
  go_enter Tryz.func87, Tryz.ntmps87
  go_wp2_with fail
  refine (print_any s w (by omega)).mono ?_
  rintro _ _ ⟨rfl, rfl⟩
  rw [HZ.out]
  go_wp2_with fail
  refine (cutP_itoa z w).mono ?_
  rintro _ _ ⟨rfl, rfl⟩
  rw [HN.out, ← HD.out]
  go_upto_region 5 with fail
  have hT := Bld.made w
  have hB : Below w.heap.size w (w.alloc (.cells #[.pointer none, .slice none 0 0] 145)) := (Below.refl _ _).alloc (Nat.le_refl _) _
  obtain ⟨b, hb⟩ : ∃ b, b = w.heap.size := ⟨_, rfl⟩
  obtain ⟨W1, hW1⟩ : ∃ W1, W1 = w.alloc (.cells #[.pointer none, .slice none 0 0] 145) := ⟨_, rfl⟩
  replace hT : Bld w W1 b [] := by rw [hW1, hb]; exact hT
  replace hB : Below w.heap.size w W1 := by rw [hW1]; exact hB
  rw [← hW1, ← hb]
  clear hW1 hb
  go_wp2_with fail
  rw [HM.out]
  refine (Tryz.strings_Repeat ⟨#[48]⟩ k W1 (by omega) (by show 1 * k ≤ _; omega)).mono ?_
  rintro _ V ⟨rfl, hV⟩
  rw [HR.out]
  replace hT := Bld.other hT hV
  replace hB := hB.trans (hV.mono hB.size)
  clear hV
  have hb1 : ¬ 9223372036854775807 < r.size + D.size := by have := HRS.out; omega
  go_upto_region 6 with fail
  rw [HX.out]
  clear hb1 hdl hks
  have hxs := HXS.out
  obtain ⟨W2, hVW⟩ : ∃ W, W = V := ⟨_, rfl⟩
  rw [← hVW] at hT hB
  rw [← hVW]
  clear hVW
  go_wp2_with fail
  rw [show X = A by have := HA.out.1; rw [show L = X.size by have := HSZ.out; omega] at this; simpa using this]
  have hsa := HA.out.2
  refine (wString A hT (by first | decide | omega | (simp; done) | (simp; omega)) hB).mono ?_
  rintro _ W3 ⟨rfl, hT2, hB2⟩
  clear hT hB
  have hT := hT2
  have hB := hB2
  clear hT2 hB2
  clear hsa
  go_wp2_with fail
  refine (wDone hT hB).mono ?_
  rintro _ U ⟨rfl, hU⟩
  go_wp2_with fail
  go_ret
  exact ⟨by rw [HE.out]; first | rfl | simp, hU⟩

set_option maxRecDepth 100000 in
set_option maxHeartbeats 1000000 in
theorem dWrite_p1 (s : ByteArray) (z : Int) (p : Nat) (w : World) (hs : s.size ≤ 4294967295) (hz : vS s = z) (hd : (Lib.decDigits z.natAbs).length ≤ 100001) (hp : p ≤ 65536) (hn : ¬ z < 0) (hp0 : 0 < p) :
    Calls Tryz.prog 87 #[.string s, .int .i64 (p : Int)] w fun e w' => e = .returned (.string ⟨(Num.decT z p).toArray⟩) ∧ Below w.heap.size w w' := by
  obtain ⟨D, X, A, F, k, L, hW⟩ := WriteAt.of z p hd hp
  have HE := Lib.hid (show Num.decT z p = ((([] ++ A.data.toList) ++ [46]) ++ F.data.toList) by rw [Num.decT_list, if_neg hn, if_neg (by omega), hW.AL, hW.FL]; simp)
  have hdl := hW.dsmall
  have hks := hW.ksmall
  have HM := Lib.hid hW.mx
  have HXS := Lib.hid hW.small
  have HSZ := Lib.hid hW.size
  have HL := Lib.hid hW.pos
  obtain ⟨r, hr⟩ : ∃ r, r = ByteArray.mk (List.replicate k (48 : UInt8)).toArray := ⟨_, rfl⟩
  have HR := Lib.hid (show ByteArray.mk (Lib.repeatL (ByteArray.mk #[48]).data.toList k).toArray = r by rw [hr, ← repeat_zero])
  have HX := Lib.hid (show r ++ D = X by rw [hr]; exact hW.eX)
  have HRS := Lib.hid (show r.size = k by rw [hr]; show (List.replicate k (48 : UInt8)).toArray.size = k; simp)
  have HD := Lib.hid hW.eD
  have HA := Lib.hid (And.intro hW.eA hW.sA)
  have HF := Lib.hid (And.intro hW.eF hW.sF)
  have HAL := Lib.hid (show A.data.toList.length ≤ 200000 by rw [size_toList]; exact hW.sA)
  have HZ := Lib.hid hz
  have HN := Lib.hid (decide_eq_false hn)
  clear hz hW hr hd hn
  go_enter Tryz.func87, Tryz.ntmps87
  go_wp2_with fail
  refine (print_any s w (by omega)).mono ?_
  rintro _ _ ⟨rfl, rfl⟩
  rw [HZ.out]
  go_wp2_with fail
  refine (cutP_itoa z w).mono ?_
  rintro _ _ ⟨rfl, rfl⟩
  rw [HN.out, ← HD.out]
  go_upto_region 5 with fail
  have hT := Bld.made w
  have hB : Below w.heap.size w (w.alloc (.cells #[.pointer none, .slice none 0 0] 145)) := (Below.refl _ _).alloc (Nat.le_refl _) _
  obtain ⟨b, hb⟩ : ∃ b, b = w.heap.size := ⟨_, rfl⟩
  obtain ⟨W1, hW1⟩ : ∃ W1, W1 = w.alloc (.cells #[.pointer none, .slice none 0 0] 145) := ⟨_, rfl⟩
  replace hT : Bld w W1 b [] := by rw [hW1, hb]; exact hT
  replace hB : Below w.heap.size w W1 := by rw [hW1]; exact hB
  rw [← hW1, ← hb]
  clear hW1 hb
  go_wp2_with fail
  rw [HM.out]
  refine (Tryz.strings_Repeat ⟨#[48]⟩ k W1 (by omega) (by show 1 * k ≤ _; omega)).mono ?_
  rintro _ V ⟨rfl, hV⟩
  rw [HR.out]
  replace hT := Bld.other hT hV
  replace hB := hB.trans (hV.mono hB.size)
  clear hV
  have hb1 : ¬ 9223372036854775807 < r.size + D.size := by have := HRS.out; omega
  go_upto_region 6 with fail
  rw [HX.out]
  clear hb1 hdl hks
  have hxs := HXS.out
  have hpt : IntKind.i64.wrap ((X.size : Int) - p) = (L : Int) := by have := HSZ.out; rw [IntWalk.i64_in _ (by omega)]; omega
  have hlx : L ≤ X.size := by have := HSZ.out; omega
  obtain ⟨W2, hVW⟩ : ∃ W, W = V := ⟨_, rfl⟩
  rw [← hVW] at hT hB
  rw [← hVW]
  clear hVW
  go_wp2_with fail
  rw [HA.out.1]
  have hsa := HA.out.2
  refine (wString A hT (by first | decide | omega | (simp; done) | (simp; omega)) hB).mono ?_
  rintro _ W3 ⟨rfl, hT2, hB2⟩
  clear hT hB
  have hT := hT2
  have hB := hB2
  clear hT2 hB2
  clear hsa
  go_wp2_with fail
  have hal := HAL.out
  have hal2 := HA.out.2
  refine (wByte 46 hT (by first | decide | omega | (simp; done) | (simp; omega)) hB).mono ?_
  rintro _ W4 ⟨rfl, hT2, hB2⟩
  clear hT hB
  have hT := hT2
  have hB := hB2
  clear hT2 hB2
  go_wp2_with fail
  rw [HF.out.1]
  have hsf := HF.out.2
  refine (wString F hT (by first | decide | omega | (simp; done) | (simp; omega)) hB).mono ?_
  rintro _ W5 ⟨rfl, hT2, hB2⟩
  clear hT hB
  have hT := hT2
  have hB := hB2
  clear hT2 hB2
  clear hsf hal hal2
  go_wp2_with fail
  refine (wDone hT hB).mono ?_
  rintro _ U ⟨rfl, hU⟩
  go_wp2_with fail
  go_ret
  exact ⟨by rw [HE.out]; first | rfl | simp, hU⟩

theorem dWrite_any (s : ByteArray) (z : Int) (p : Nat) (w : World) (hs : s.size ≤ 4294967295) (hz : vS s = z) (hd : (Lib.decDigits z.natAbs).length ≤ 100001) (hp : p ≤ 65536) :
    Calls Tryz.prog 87 #[.string s, .int .i64 (p : Int)] w fun e w' => e = .returned (.string ⟨(Num.decT z p).toArray⟩) ∧ Below w.heap.size w w' := by
  by_cases hn : z < 0
  · by_cases h0 : p = 0
    · exact dWrite_n0 s z p w hs hz hd hp hn h0
    · exact dWrite_n1 s z p w hs hz hd hp hn (by omega)
  · by_cases h0 : p = 0
    · exact dWrite_p0 s z p w hs hz hd hp hn h0
    · exact dWrite_p1 s z p w hs hz hd hp hn (by omega)

end Go.Proofs.YtahnkmkmoalbhaaGreatDoor

/- The program's layer 3: read, Text, Scale, Format, Fraction, Parse: the walks. -/
namespace Go.Proofs.YtahnkmkmoalbhaaGreatDoor
open Go.RowKit Fra

/-- the text ahead of the first point, and behind it -/
def befS (s : ByteArray) : ByteArray := ⟨(Num.bef s.data.toList).toArray⟩
def behS (s : ByteArray) : ByteArray := ⟨(Num.beh s.data.toList).toArray⟩
theorem befS_size (s : ByteArray) : (befS s).size + (behS s).size ≤ s.size := by
  have h := Num.beh_length s.data.toList
  rw [size_toList] at h
  rw [← size_toList (befS s), ← size_toList (behS s)]
  exact h
theorem behS_len (s : ByteArray) : (behS s).size = (Num.beh s.data.toList).length := by rw [← size_toList (behS s)]; rfl
theorem join_list (s : ByteArray) : (befS s ++ behS s).data.toList = Num.bef s.data.toList ++ Num.beh s.data.toList := by
  rw [ByteArray.data_append, Array.toList_append]; rfl
/-- the units that the program reads -/
def unitsS (s : ByteArray) : Int := Num.val (Num.bef s.data.toList ++ Num.beh s.data.toList)
theorem vS_join (s : ByteArray) : vS (befS s ++ behS s) = unitsS s := by unfold vS unitsS; rw [join_list]
theorem units_cap (s : ByteArray) : Cap s.size (unitsS s) := by
  have h := vS_lt (befS s ++ behS s)
  rw [vS_join] at h
  have h2 := befS_size s
  refine Cap.mono h ?_
  rw [ByteArray.size_append]
  exact h2
theorem digits_len {z : Int} {k : Nat} (h : Cap k z) : (Lib.decDigits z.natAbs).length ≤ k + 1 := by
  by_cases h0 : z.natAbs = 0
  · rw [h0, Num.decDigits_zero]
    show 1 ≤ k + 1
    omega
  · have e : Num.digs z.natAbs = Lib.decDigits z.natAbs := by unfold Num.digs; rw [if_neg h0]
    have h1 := cS_size (z := (z.natAbs : Int)) (k := k) (by unfold Cap at h; omega)
    have h2 : (cS (z.natAbs : Int)).data.toList = Num.digs z.natAbs := by
      unfold cS Num.canon
      rw [if_neg (by omega)]
      rfl
    rw [← size_toList, h2, e] at h1
    exact h1

theorem dCut_any (s : ByteArray) (w : World) (hG : Ground w) (hs : s.size ≤ 65536) :
    Calls Tryz.prog 102 #[.string s, .string ⟨#[46]⟩] w fun e w' => ∃ b, e = .returned (.tuple #[.string (befS s), .string (behS s), .bool b]) ∧ b = decide (Num.dot s.data.toList < s.data.toList.length) ∧ Below w.heap.size w w' ∧ Ground w' := by
  obtain ⟨m, hm⟩ := hG.max
  refine (Tryz.strings_Cut s ⟨#[46]⟩ m w (by omega) hm).mono ?_
  rintro _ _ ⟨rfl, n, rfl⟩
  obtain ⟨h1, h2, h3⟩ := Num.cut_dot s.data.toList
  refine ⟨(Lib.cut s.data.toList [46]).2.2, ?_, h3, below_drewN (Below.refl _ _) n, hG.tab, hG.max⟩
  unfold befS behS
  rw [← h1, ← h2]

/-- is it a decimal text? -/
def isDecS (s : ByteArray) : Bool := Num.isDec s.data.toList
def unitsD (s : ByteArray) : Int := Num.decU s.data.toList
def placesD (s : ByteArray) : Nat := Num.decP s.data.toList
/-- the text of units with places -/
def txt (z : Int) (p : Nat) : ByteArray := ⟨(Num.decT z p).toArray⟩
theorem good_text {s : ByteArray} (h : isDecS s = true) : txt (unitsS s) (behS s).size = s := by
  apply ByteArray.ext
  apply Array.toList_inj.1
  show Num.decT _ _ = _
  rw [behS_len]
  exact (Num.good_iff _).mpr h
theorem bad_text {s : ByteArray} (h : isDecS s = false) : txt (unitsS s) (behS s).size ≠ s := by
  intro e
  have e2 : Num.decT (unitsS s) (behS s).size = s.data.toList := congrArg (fun b : ByteArray => b.data.toList) e
  rw [behS_len] at e2
  have := (Num.good_iff _).mp e2
  unfold isDecS at h
  rw [this] at h
  simp at h
theorem unitsS_good {s : ByteArray} (h : isDecS s = true) : unitsS s = unitsD s := Num.val_units h
theorem behS_good (s : ByteArray) : (behS s).size = placesD s := by rw [behS_len, Num.beh_eq]; rfl

set_option maxHeartbeats 1000000 in
theorem dRead_long (s : ByteArray) (w : World) (hs : 65536 < s.size) :
    Calls Tryz.prog 74 #[.string s] w fun e w' => e = .returned (.tuple #[.string ⟨#[]⟩, .int .i64 0, .int .i64 4]) ∧ w = w' := by
  go_enter Tryz.func74, Tryz.ntmps74
  go_wp2_with fail
  go_ret3
  exact ⟨rfl, rfl⟩

set_option maxRecDepth 100000 in
set_option maxHeartbeats 2000000 in
theorem dRead_ok (s : ByteArray) (w : World) (hG : Ground w) (hs : s.size ≤ 65536) (hg : isDecS s = true) :
    Calls Tryz.prog 74 #[.string s] w fun e w' => e = .returned (.tuple #[.string (cS (unitsD s)), .int .i64 (placesD s : Int), .int .i64 0]) ∧ Below w.heap.size w w' := by
  have HT := Lib.hid (good_text hg)
  have HU := Lib.hid (unitsS_good hg)
  have HP := Lib.hid (behS_good s)
  have hsz := befS_size s
  have hb1 : ¬ 9223372036854775807 < (befS s).size + (behS s).size := by omega
  have hc := units_cap s
  have HC := Lib.hid (show (cS (unitsS s)).size ≤ 4294967295 by have := cS_size hc; omega)
  have HD := Lib.hid (show (Lib.decDigits (unitsS s).natAbs).length ≤ 100001 by have := digits_len hc; omega)
  have HV := Lib.hid (vS_join s)
  have HL := Lib.hid (show (befS s ++ behS s).size ≤ 4294967295 by rw [ByteArray.size_append]; omega)
  have HBS := Lib.hid (show (behS s).size ≤ 65536 by omega)
  obtain ⟨a, ha⟩ : ∃ a, a = befS s := ⟨_, rfl⟩
  obtain ⟨b, hb⟩ : ∃ b, b = behS s := ⟨_, rfl⟩
  rw [← ha, ← hb] at hb1
  rw [← hb] at HT HP HBS
  rw [← ha, ← hb] at HV HL
  have HAB := Lib.hid (And.intro ha hb)
  clear hg hsz hc ha hb
  go_enter Tryz.func74, Tryz.ntmps74
  go_wp2_with fail
  refine (dCut_any s w hG hs).mono ?_
  rintro _ w1 ⟨c, rfl, _, hB, hG1⟩
  rw [← HAB.out.1, ← HAB.out.2]
  go_wp2_with fail
  refine (canonical_v w1 HL.out HV.out rfl).mono ?_
  rintro _ _ ⟨rfl, rfl⟩
  go_wp2_with fail
  refine (dWrite_any (cS (unitsS s)) (unitsS s) b.size w1 HC.out (vS_cS _) HD.out HBS.out).mono ?_
  rintro _ w2 ⟨rfl, hB2⟩
  replace hB := hB.trans (hB2.mono hB.size)
  clear hB2
  rw [show (ByteArray.mk (Num.decT (unitsS s) b.size).toArray) = s from HT.out]
  go_wp2_with fail
  go_ret3
  exact ⟨by rw [← HU.out, ← HP.out]; rfl, hB⟩

set_option maxRecDepth 100000 in
set_option maxHeartbeats 2000000 in
theorem dRead_bad (s : ByteArray) (w : World) (hG : Ground w) (hs : s.size ≤ 65536) (hg : isDecS s = false) :
    Calls Tryz.prog 74 #[.string s] w fun e w' => e = .returned (.tuple #[.string ⟨#[]⟩, .int .i64 0, .int .i64 3]) ∧ Below w.heap.size w w' := by
  have HT := Lib.hid (bad_text hg)
  have hsz := befS_size s
  have hb1 : ¬ 9223372036854775807 < (befS s).size + (behS s).size := by omega
  have hc := units_cap s
  have HC := Lib.hid (show (cS (unitsS s)).size ≤ 4294967295 by have := cS_size hc; omega)
  have HD := Lib.hid (show (Lib.decDigits (unitsS s).natAbs).length ≤ 100001 by have := digits_len hc; omega)
  have HV := Lib.hid (vS_join s)
  have HL := Lib.hid (show (befS s ++ behS s).size ≤ 4294967295 by rw [ByteArray.size_append]; omega)
  have HBS := Lib.hid (show (behS s).size ≤ 65536 by omega)
  obtain ⟨a, ha⟩ : ∃ a, a = befS s := ⟨_, rfl⟩
  obtain ⟨b, hb⟩ : ∃ b, b = behS s := ⟨_, rfl⟩
  rw [← ha, ← hb] at hb1
  rw [← hb] at HT HBS
  rw [← ha, ← hb] at HV HL
  have HAB := Lib.hid (And.intro ha hb)
  clear hg hsz hc ha hb
  go_enter Tryz.func74, Tryz.ntmps74
  go_wp2_with fail
  refine (dCut_any s w hG hs).mono ?_
  rintro _ w1 ⟨c, rfl, _, hB, hG1⟩
  rw [← HAB.out.1, ← HAB.out.2]
  go_wp2_with fail
  refine (canonical_v w1 HL.out HV.out rfl).mono ?_
  rintro _ _ ⟨rfl, rfl⟩
  go_wp2_with fail
  refine (dWrite_any (cS (unitsS s)) (unitsS s) b.size w1 HC.out (vS_cS _) HD.out HBS.out).mono ?_
  rintro _ w2 ⟨rfl, hB2⟩
  replace hB := hB.trans (hB2.mono hB.size)
  clear hB2
  obtain ⟨t, ht⟩ : ∃ t, t = txt (unitsS s) b.size := ⟨_, rfl⟩
  have hne : (t.toList == s.toList) = false := by rw [ht]; exact eq_str _ _ HT.out
  rw [show (ByteArray.mk (Num.decT (unitsS s) b.size).toArray) = t from ht.symm]
  clear ht
  go_wp2_with fail
  go_ret3
  exact ⟨rfl, hB⟩

/-! ### Text, Scale, Format -/
theorem okP_iff {n : Int} : okP n = true ↔ 0 ≤ n ∧ n ≤ 12 := by unfold okP; exact decide_eq_true_iff
set_option maxHeartbeats 1000000 in
theorem dText_v {s : ByteArray} {z : Int} {p : Nat} (w : World) (hs : s.size ≤ 100000) (hz : vS s = z) (hp : p ≤ 12) :
    Calls Tryz.prog 61 #[.string s, .int .i64 (p : Int)] w fun e w' => e = .returned (.tuple #[.string (txt z p), .int .i64 0]) ∧ Below w.heap.size w w' := by
  have HN := Lib.hid (okP_true (n := (p : Int)) (by omega) (by omega))
  have HD := Lib.hid (show (Lib.decDigits z.natAbs).length ≤ 100001 from digits_len (Cap.of hs hz))
  go_enter Tryz.func61, Tryz.ntmps61
  go_wp2_with fail
  refine (dPlaces_any p w).mono ?_
  rintro _ _ ⟨rfl, rfl⟩
  rw [HN.out]
  go_wp2_with fail
  refine (dWrite_any s z p w (by omega) hz HD.out (by omega)).mono ?_
  rintro _ w1 ⟨rfl, hB⟩
  go_wp2_with fail
  go_ret2
  exact ⟨rfl, hB⟩

theorem tens_size (p : Nat) : (cS ((10 : Int) ^ p)).size ≤ p + 1 := by
  rw [cS_pow]
  show (49 :: List.replicate p (48 : UInt8)).toArray.size ≤ _
  simp
theorem tens_cap (p : Nat) : Cap (p + 1) ((10 : Int) ^ p) := by
  unfold Cap
  rw [Int.natAbs_pow]
  show 10 ^ p < 10 ^ (p + 1)
  exact Nat.pow_lt_pow_right (by decide) (by omega)
theorem tens_capP (p : Nat) : CapP (p + 1) ((10 : Int) ^ p, 1) := ⟨tens_cap p, Cap.one (by omega)⟩
/-- from whatever memory: the function returns this, and nothing that was there has changed -/
def Ret (f : FuncId) (args : Array Value) (v : Value) : Prop := ∀ W, Ground W → Calls Tryz.prog f args W fun r w' => r = .returned v ∧ Below W.heap.size W w'
theorem Ret.call {f : FuncId} {args : Array Value} {v : Value} (h : Ret f args v) (W : World) (hG : Ground W) : Calls Tryz.prog f args W fun r w' => r = .returned v ∧ Below W.heap.size W w' := h W hG
/-- a string and an error -/
abbrev two (u : ByteArray) (c : Int) : Value := .tuple #[.string u, .int .i64 c]

theorem text_ok {s : ByteArray} {z : Int} {p : Nat} (hs : s.size ≤ 100000) (hz : vS s = z) (hp : p ≤ 12) : Ret 61 #[.string s, .int .i64 (p : Int)] (two (txt z p) 0) :=
  fun W _ => dText_v W hs hz hp
end Go.Proofs.YtahnkmkmoalbhaaGreatDoor

/- The program's layer 3: Fraction, Parse: the walks. -/
namespace Go.Proofs.YtahnkmkmoalbhaaGreatDoor
open Go.RowKit Fra

theorem Ret.of_same {f : FuncId} {args : Array Value} {v : Value} (h : ∀ W, Calls Tryz.prog f args W fun r w' => r = .returned v ∧ W = w') : Ret f args v :=
  fun W _ => (h W).mono fun _ _ k => ⟨k.1, k.2 ▸ Below.refl _ _⟩
/-- what read answers -/
abbrev three (u : ByteArray) (p c : Int) : Value := .tuple #[.string u, .int .i64 p, .int .i64 c]
theorem read_long {s : ByteArray} (hs : 65536 < s.size) : Ret 74 #[.string s] (three ⟨#[]⟩ 0 4) := Ret.of_same fun W => dRead_long s W hs
theorem read_bad {s : ByteArray} (hs : s.size ≤ 65536) (hg : isDecS s = false) : Ret 74 #[.string s] (three ⟨#[]⟩ 0 3) := fun W hG => dRead_bad s W hG hs hg
theorem read_ok {s : ByteArray} (hs : s.size ≤ 65536) (hg : isDecS s = true) : Ret 74 #[.string s] (three (cS (unitsD s)) (placesD s : Int) 0) := fun W hG => dRead_ok s W hG hs hg
theorem placesD_le (s : ByteArray) : placesD s ≤ s.size := by have h1 := behS_good s; have h2 := befS_size s; omega
theorem unitsD_cap {s : ByteArray} (hg : isDecS s = true) : Cap s.size (unitsD s) := by rw [← unitsS_good hg]; exact units_cap s

/-- a fraction and an error -/
abbrev fraE (u v : ByteArray) (c : Int) : Value := .tuple #[.agg #[.string u, .string v], .int .i64 c]

theorem redS_pow (u : Int) (p : Nat) : redS u ((10 : Int) ^ p) = low (u, (10 : Int) ^ p) := redS_red (Num.pow10 p)

set_option maxRecDepth 100000 in
set_option maxHeartbeats 2000000 in
theorem fraction_ok {s : ByteArray} {x : Int × Int} (hs : s.size ≤ 65536) (hg : isDecS s = true) (hx : low (unitsD s, (10 : Int) ^ placesD s) = x) : Ret 40 #[.string s] (fraE (cS x.1) (cD x.2) 0) := by
  intro w hG
  have HR := Lib.hid (read_ok hs hg)
  have hp := placesD_le s
  have HS1 := Lib.hid (show (cS (unitsD s)).size ≤ 100000 by have := cS_size (unitsD_cap hg); omega)
  have HS2 := Lib.hid (show (cS ((10 : Int) ^ placesD s)).size ≤ 100000 by have := tens_size (placesD s); omega)
  have HX := Lib.hid (show redS (unitsD s) ((10 : Int) ^ placesD s) = x by rw [redS_pow]; exact hx)
  have HP := Lib.hid (show placesD s ≤ 1000000 by omega)
  have H0 := Lib.hid (show (10 : Int) ^ placesD s ≠ 0 by have := Num.pow10 (placesD s); omega)
  clear hg hp hx
  obtain ⟨W0, hW0⟩ : ∃ W0, W0 = w.alloc (.cells #[.string ⟨#[]⟩, .string ⟨#[]⟩] 59) := ⟨_, rfl⟩
  have hB0 : Below w.heap.size w W0 := by rw [hW0]; exact (Below.refl _ _).alloc (Nat.le_refl _) _
  have hP : PairAt W0 w.heap.size 59 ⟨#[]⟩ ⟨#[]⟩ := by rw [hW0]; exact PairAt.made _ _ _ _
  go_enter Tryz.func40, Tryz.ntmps40
  go_wp2_with fail
  rw [← hW0]
  clear hW0
  refine (HR.out W0 (hG.below hB0)).mono ?_
  rintro _ w1 ⟨rfl, hB1⟩
  have hP1 := hP.below hB1
  have hB := hB0.trans (hB1.mono hB0.size)
  clear hB1 hB0 hP
  go_wp2_with fail
  refine (dTen_any (placesD s) w1 HP.out).mono ?_
  rintro _ w2 ⟨rfl, hB1⟩
  have hP2 := hP1.below hB1
  replace hB := hB.trans (hB1.mono hB.size)
  clear hB1 hP1
  go_wp2_with fail
  refine (fNew_v w2 (hG.below hB) HS1.out HS2.out (vS_cS _) (vS_cS _) H0.out HX.out).mono ?_
  rintro _ w3 ⟨rfl, hB1⟩
  have hP3 := hP2.below hB1
  replace hB := hB.trans (hB1.mono hB.size)
  clear hB1 hP2
  obtain ⟨c4, c5, c6, c7⟩ := hP3.cells
  go_wp2_with fail
  obtain ⟨k0, k1, _, _⟩ := (hP3.put (cS x.1) (cD x.2)).cells
  exact bodyPost_ret (v := fraE (cS x.1) (cD x.2) 0) (by simp [results, Tryz.results40, go_sem, k0, k1]) rfl ⟨rfl, below_put hB (Nat.le_refl _) _ _⟩

/-! ### Parse -/
set_option maxHeartbeats 1000000 in
theorem dParse_range (s : ByteArray) {n : Int} (hn : okP n = false) : Ret 65 #[.string s, .int .i64 n] (two ⟨#[]⟩ 2) := by
  refine Ret.of_same fun w => ?_
  have HN := Lib.hid hn
  clear hn
  go_enter Tryz.func65, Tryz.ntmps65
  go_wp2_with fail
  refine (dPlaces_any n w).mono ?_
  rintro _ _ ⟨rfl, rfl⟩
  rw [HN.out]
  go_wp2_with fail
  go_ret2
  exact ⟨rfl, rfl⟩
set_option maxHeartbeats 1000000 in
theorem dParse_err {s u : ByteArray} {p n c : Int} (hn : okP n = true) (hr : Ret 74 #[.string s] (three u p c)) (hc : c ≠ 0) : Ret 65 #[.string s, .int .i64 n] (two ⟨#[]⟩ c) := by
  intro w hG
  have HN := Lib.hid hn
  have HR := Lib.hid hr
  have hc2 : (c == 0) = false := by simpa using hc
  clear hn hr hc
  go_enter Tryz.func65, Tryz.ntmps65
  go_wp2_with fail
  refine (dPlaces_any n w).mono ?_
  rintro _ _ ⟨rfl, rfl⟩
  rw [HN.out]
  go_wp2_with fail
  refine (HR.out w hG).mono ?_
  rintro _ w1 ⟨rfl, hB⟩
  go_wp2_with fail
  go_ret2
  exact ⟨rfl, hB⟩
theorem dParse_bad {s : ByteArray} {n : Int} (hn : okP n = true) (hs : s.size ≤ 65536) (hg : isDecS s = false) : Ret 65 #[.string s, .int .i64 n] (two ⟨#[]⟩ 3) := dParse_err hn (read_bad hs hg) (by decide)
theorem dParse_long {s : ByteArray} {n : Int} (hn : okP n = true) (hs : 65536 < s.size) : Ret 65 #[.string s, .int .i64 n] (two ⟨#[]⟩ 4) := dParse_err hn (read_long hs) (by decide)

/-- what Parse reckons with -/
structure ParseAt (s : ByteArray) (p : Nat) (a b q r : Int) : Prop where
  ea : unitsD s * (10 : Int) ^ p = a
  eb : (10 : Int) ^ placesD s = b
  eq : Int.fdiv a b = q
  er : Int.fmod a b = r
  s1 : (cS (unitsD s)).size ≤ 4294967295
  s2 : (cS ((10 : Int) ^ p)).size ≤ 4294967295
  s3 : (cS a).size ≤ 4294967295
  s4 : (cS b).size ≤ 4294967295
  p1 : p ≤ 1000000
  p2 : placesD s ≤ 1000000
  b0 : b ≠ 0
theorem ParseAt.of {s : ByteArray} {p : Nat} (hs : s.size ≤ 65536) (hg : isDecS s = true) (hp : p ≤ 12) :
    ParseAt s p (unitsD s * (10 : Int) ^ p) ((10 : Int) ^ placesD s) (Int.fdiv (unitsD s * (10 : Int) ^ p) ((10 : Int) ^ placesD s)) (Int.fmod (unitsD s * (10 : Int) ^ p) ((10 : Int) ^ placesD s)) := by
  have h1 := placesD_le s
  have h2 := tens_size (placesD s)
  have h3 := tens_size p
  have h4 := unitsD_cap hg
  have h5 := cS_size h4
  have h6 := cS_size (Cap.mul h4 (tens_cap p))
  have h7 := Num.pow10 (placesD s)
  exact ⟨rfl, rfl, rfl, rfl, by omega, by omega, by omega, by omega, by omega, by omega, by omega⟩

set_option maxRecDepth 100000 in
set_option maxHeartbeats 2000000 in
theorem dParse_ok {s : ByteArray} {p : Nat} {m : Int} (hs : s.size ≤ 65536) (hg : isDecS s = true) (hp : p ≤ 12) (hm : unitsD s * (10 : Int) ^ p = m * (10 : Int) ^ placesD s) : Ret 65 #[.string s, .int .i64 (p : Int)] (two (cS m) 0) := by
  intro w hG
  have HN := Lib.hid (okP_true (n := (p : Int)) (by omega) (by omega))
  have HR := Lib.hid (read_ok hs hg)
  have h0 := Num.pow10 (placesD s)
  have hA := ParseAt.of hs hg hp
  rw [show Int.fdiv (unitsD s * (10 : Int) ^ p) ((10 : Int) ^ placesD s) = m by rw [hm]; exact Int.mul_fdiv_cancel _ (by omega)] at hA
  rw [show Int.fmod (unitsD s * (10 : Int) ^ p) ((10 : Int) ^ placesD s) = 0 by rw [hm]; exact Int.mul_fmod_left _ _] at hA
  obtain ⟨a, ha⟩ : ∃ a, unitsD s * (10 : Int) ^ p = a := ⟨_, rfl⟩
  obtain ⟨b, hb⟩ : ∃ b, (10 : Int) ^ placesD s = b := ⟨_, rfl⟩
  rw [ha, hb] at hA
  have HA := Lib.hid hA
  clear hg hm h0 hA ha hb
  go_enter Tryz.func65, Tryz.ntmps65
  go_wp2_with fail
  refine (dPlaces_any p w).mono ?_
  rintro _ _ ⟨rfl, rfl⟩
  rw [HN.out]
  go_wp2_with fail
  refine (HR.out w hG).mono ?_
  rintro _ w1 ⟨rfl, hB⟩
  go_wp2_with fail
  refine (dTen_any p w1 HA.out.p1).mono ?_
  rintro _ w2 ⟨rfl, hB1⟩
  replace hB := hB.trans (hB1.mono hB.size)
  clear hB1
  go_wp2_with fail
  refine (mul_v w2 (hG.below hB) HA.out.s1 HA.out.s2 (vS_cS _) (vS_cS _) HA.out.ea).mono ?_
  rintro _ w3 ⟨rfl, hB1⟩
  replace hB := hB.trans (hB1.mono hB.size)
  clear hB1
  go_wp2_with fail
  refine (dTen_any (placesD s) w3 HA.out.p2).mono ?_
  rintro _ w4 ⟨rfl, hB1⟩
  replace hB := hB.trans (hB1.mono hB.size)
  clear hB1
  rw [HA.out.eb]
  go_wp2_with fail
  refine (div_v w4 (hG.below hB) HA.out.s3 HA.out.s4 (vS_cS _) (vS_cS _) HA.out.b0 HA.out.eq HA.out.er).mono ?_
  rintro _ w5 ⟨rfl, hB1⟩
  replace hB := hB.trans (hB1.mono hB.size)
  clear hB1
  rw [cS_zero]
  go_wp2_with fail
  go_ret2
  exact ⟨rfl, hB⟩

set_option maxRecDepth 100000 in
set_option maxHeartbeats 2000000 in
theorem dParse_inexact {s : ByteArray} {p : Nat} (hs : s.size ≤ 65536) (hg : isDecS s = true) (hp : p ≤ 12) (hm : Int.fmod (unitsD s * (10 : Int) ^ p) ((10 : Int) ^ placesD s) ≠ 0) : Ret 65 #[.string s, .int .i64 (p : Int)] (two ⟨#[]⟩ 22) := by
  intro w hG
  have HN := Lib.hid (okP_true (n := (p : Int)) (by omega) (by omega))
  have HR := Lib.hid (read_ok hs hg)
  have hA := ParseAt.of hs hg hp
  obtain ⟨a, ha⟩ : ∃ a, unitsD s * (10 : Int) ^ p = a := ⟨_, rfl⟩
  obtain ⟨b, hb⟩ : ∃ b, (10 : Int) ^ placesD s = b := ⟨_, rfl⟩
  rw [ha, hb] at hA hm
  obtain ⟨r, hr⟩ : ∃ r, Int.fmod a b = r := ⟨_, rfl⟩
  rw [hr] at hA hm
  have hne : ((cS r).toList.isEmpty) = false := by rw [eq_nil]; exact decide_eq_false hm
  obtain ⟨sr, hsr⟩ : ∃ sr, sr = cS r := ⟨_, rfl⟩
  have HSR := Lib.hid hsr
  rw [← hsr] at hne
  have HA := Lib.hid hA
  clear hg hm hA ha hb hr hsr
  go_enter Tryz.func65, Tryz.ntmps65
  go_wp2_with fail
  refine (dPlaces_any p w).mono ?_
  rintro _ _ ⟨rfl, rfl⟩
  rw [HN.out]
  go_wp2_with fail
  refine (HR.out w hG).mono ?_
  rintro _ w1 ⟨rfl, hB⟩
  go_wp2_with fail
  refine (dTen_any p w1 HA.out.p1).mono ?_
  rintro _ w2 ⟨rfl, hB1⟩
  replace hB := hB.trans (hB1.mono hB.size)
  clear hB1
  go_wp2_with fail
  refine (mul_v w2 (hG.below hB) HA.out.s1 HA.out.s2 (vS_cS _) (vS_cS _) HA.out.ea).mono ?_
  rintro _ w3 ⟨rfl, hB1⟩
  replace hB := hB.trans (hB1.mono hB.size)
  clear hB1
  go_wp2_with fail
  refine (dTen_any (placesD s) w3 HA.out.p2).mono ?_
  rintro _ w4 ⟨rfl, hB1⟩
  replace hB := hB.trans (hB1.mono hB.size)
  clear hB1
  rw [HA.out.eb]
  go_wp2_with fail
  refine (div_v w4 (hG.below hB) HA.out.s3 HA.out.s4 (vS_cS _) (vS_cS _) HA.out.b0 HA.out.eq HA.out.er).mono ?_
  rintro _ w5 ⟨rfl, hB1⟩
  replace hB := hB.trans (hB1.mono hB.size)
  clear hB1
  rw [← HSR.out]
  go_wp2_with fail
  go_ret2
  exact ⟨rfl, hB⟩

end Go.Proofs.YtahnkmkmoalbhaaGreatDoor

/- The program's layer 3: remove, Finite: the walks. -/
namespace Go.Proofs.YtahnkmkmoalbhaaGreatDoor
open Go.RowKit Fra

/-- two numbers, of k digits and of twice as many -/
structure RemAt (k f d : Nat) : Prop where
  f2 : 2 ≤ f
  d0 : 0 < d
  cf : f < 10 ^ (k + k)
  cd : d < 10 ^ k
  k1 : k ≤ 200000
theorem RemAt.s1 {k f d : Nat} (h : RemAt k f d) : (cS (f : Int)).size ≤ 4294967295 := by
  have h1 := h.cf; have h2 := h.k1
  have := cS_size (z := (f : Int)) (k := k + k) (by omega)
  omega
theorem RemAt.s2 {k f d : Nat} (h : RemAt k f d) : (cS (d : Int)).size ≤ 4294967295 := by
  have h1 := h.cd; have h2 := h.k1
  have := cS_size (z := (d : Int)) (k := k) (by omega)
  omega
theorem RemAt.next {k f d : Nat} (h : RemAt k f d) (h0 : d % f = 0) : RemAt k (f * f) (d / f) := by
  have h2 := h.f2
  have hfd : f ≤ d := Nat.le_of_dvd h.d0 (Nat.dvd_of_mod_eq_zero h0)
  have hf : f < 10 ^ k := Nat.lt_of_le_of_lt hfd h.cd
  refine ⟨?_, Nat.div_pos hfd (by omega), ?_, Nat.lt_of_le_of_lt (Nat.div_le_self _ _) h.cd, h.k1⟩
  · have := Nat.mul_le_mul h2 h2; omega
  · rw [Nat.pow_add]; exact Nat.mul_lt_mul'' hf hf
theorem RemAt.rest {k f d : Nat} (h : RemAt k f d) : RemAt k f (Num.tm (f * f) d).2 :=
  ⟨h.f2, Num.tm_pos h.d0, h.cf, Nat.lt_of_le_of_lt (Num.tm_le (by have := Nat.mul_le_mul h.f2 h.f2; omega)) h.cd, h.k1⟩
theorem RemAt.few {k f d : Nat} (h : RemAt k f d) : (Num.tm f d).1 < 4 * 200000 := by
  have := Num.tm_few h.f2 h.d0 h.cd
  have := h.k1
  omega

theorem RemAt.of {k f D : Nat} (h : Cap k (D : Int)) (h0 : 0 < D) (hf : 2 ≤ f) (hf9 : f ≤ 9) (h1 : 1 ≤ k) (hk : k ≤ 200000) : RemAt k f D := by
  refine ⟨hf, h0, ?_, by unfold Cap at h; omega, hk⟩
  have h2 : 10 ^ 1 ≤ 10 ^ (k + k) := Nat.pow_le_pow_right (by decide) (by omega)
  omega
/-! ### Finite -/
end Go.Proofs.YtahnkmkmoalbhaaGreatDoor

/- What the laws of layer 3 hold the program's answers against, by values. -/
namespace Go.Proofs.YtahnkmkmoalbhaaGreatDoor
open Go.RowKit Fra

theorem txt_list (z : Int) (p : Nat) : (txt z p).data.toList = Num.decT z p := rfl
theorem txt_size {z : Int} {k : Nat} (p : Nat) (h : Cap k z) : (txt z p).size ≤ k + p + 3 := by
  rw [← size_toList, txt_list, Num.decT_list]
  have h1 : (Lib.decDigits (z.natAbs / 10 ^ p)).length ≤ k + 1 := by
    have := digits_len (z := ((z.natAbs / 10 ^ p : Nat) : Int)) (k := k) (by unfold Cap at *; rw [Int.natAbs_natCast]; exact Nat.lt_of_le_of_lt (Nat.div_le_self z.natAbs (10 ^ p)) h)
    rwa [Int.natAbs_natCast] at this
  have h2 := Num.fixd_length p z.natAbs
  rw [List.length_append, List.length_append]
  have h3 : ((if z < 0 then [45] else []) : List UInt8).length ≤ 1 := by split <;> simp
  have h4 : ((if p = 0 then [] else 46 :: Num.fixd p z.natAbs) : List UInt8).length ≤ p + 1 := by
    split
    · simp
    · rw [List.length_cons, h2]; omega
  omega
theorem cap_tens {p k : Nat} (h : p + 1 ≤ k) : Cap k ((10 : Int) ^ p) := (tens_cap p).mono h
theorem frac_val {z : Int} {p k : Nat} (h : Cap k z) (hk : p + 1 ≤ k) : CapP k (low (z, (10 : Int) ^ p)) ∧ 0 < (low (z, (10 : Int) ^ p)).2 :=
  ⟨CapP.low ⟨h, cap_tens hk⟩ (Num.pow10 p), low_pos (x := (z, (10 : Int) ^ p)) (Num.pow10 p)⟩

end Go.Proofs.YtahnkmkmoalbhaaGreatDoor

/- The reference implementation of layer 3: mode, places, power, even, digits, divided: the walks. -/
namespace Go.Proofs.YtahnkmkmoalbhaaGreatDoor
open Go.RowKit Fra

theorem kPlaces (n : Int) (w : World) :
    Calls Tryz.prog 91 #[.int .i64 n] w fun e w' => e = .returned (.bool (okP n)) ∧ w = w' := by
  by_cases h1 : 0 ≤ n
  · by_cases h2 : n ≤ 12
    · have HD := Lib.hid (okP_true h1 h2)
      go_enter Tryz.func91, Tryz.ntmps91
      go_wp2_with fail
      go_ret
      exact ⟨by rw [HD.out]; rfl, rfl⟩
    · have HD := Lib.hid (okP_false (n := n) (by omega))
      go_enter Tryz.func91, Tryz.ntmps91
      go_wp2_with fail
      go_ret
      exact ⟨by rw [HD.out]; rfl, rfl⟩
  · have HD := Lib.hid (okP_false (n := n) (by omega))
    go_enter Tryz.func91, Tryz.ntmps91
    go_wp2_with fail
    go_ret
    exact ⟨by rw [HD.out]; rfl, rfl⟩

set_option maxHeartbeats 1000000 in
theorem kPower (n : Nat) (w : World) (hn : n ≤ 1000000) :
    Calls Tryz.prog 96 #[.int .i64 (n : Int)] w fun e w' => e = .returned (.string (cS ((10 : Int) ^ n))) ∧ w = w' := by
  go_enter Tryz.func96, Tryz.ntmps96
  go_wp2_with fail
  go_loopw [3, 4] (fun pv iv wr => ∃ (j : Nat) (r : ByteArray), j ≤ n ∧ r.data.toList = 49 :: List.replicate j 48 ∧ pv = .string r ∧ iv = .int .i64 (j : Int) ∧ w = wr) (fun _ iv _ => n - (intOf iv).toNat)
  case atStart => exact ⟨0, ⟨#[49]⟩, Nat.zero_le _, rfl, rfl, rfl, rfl⟩
  case round =>
    obtain ⟨j, r, hj, hr, rfl, rfl, rfl⟩ := hrel
    have hs : r.size = j + 1 := by rw [← size_toList, hr]; simp
    have hb : ¬ 9223372036854775807 < r.size + 1 := by omega
    have HR := Lib.hid hr
    have HS := Lib.hid hs
    clear hr hs
    by_cases hlt : j < n
    · go_wp2_with fail
      go_roundw
      case rel => exact ⟨j + 1, r ++ ⟨#[48]⟩, by omega, by rw [ByteArray.data_append, Array.toList_append, HR.out, List.replicate_succ']; rfl, rfl, by simp, trivial⟩
      case measure => simp [intOf]; omega
    · obtain rfl : j = n := by omega
      have HE := Lib.hid (show r = cS ((10 : Int) ^ j) by rw [cS_pow]; apply ByteArray.ext; apply Array.toList_inj.1; exact HR.out)
      go_wp2_with fail
      go_ret
      exact ⟨by rw [← HE.out]; rfl, rfl⟩

/-! ### even -/
/-! ### digits -/
def digsB (l : List UInt8) : Bool := l.all Num.isDig && !l.isEmpty
set_option maxHeartbeats 1000000 in
theorem kDigits (s : ByteArray) (w : World) (hs : s.size ≤ 4294967296) :
    Calls Tryz.prog 126 #[.string s] w fun e w' => e = .returned (.bool (digsB s.data.toList)) ∧ w = w' := by
  go_enter Tryz.func126, Tryz.ntmps126
  go_wp2_with fail
  go_loop [3] (fun i => ∃ k : Nat, k ≤ s.size ∧ i = .int .i64 k ∧ (s.data.toList.take k).all Num.isDig = true) (fun i => s.size - (intOf i).toNat)
  case atStart => exact ⟨0, Nat.zero_le _, rfl, rfl⟩
  case round =>
    obtain ⟨k, hk, rfl, ha⟩ := hrel
    have HA := Lib.hid ha
    clear ha
    by_cases hlt : k < s.size
    · have hlt' : k < s.data.toList.length := by rw [size_toList]; exact hlt
      have HB := Lib.hid (byte_at s k hlt hlt')
      by_cases b1 : ((s[k]'hlt).toNat : Int) < 48
      · have H := Lib.hid (show digsB s.data.toList = false by unfold digsB; rw [not_all_at hlt' (.inl (by rw [HB.out]; exact b1))]; rfl)
        clear HB hlt'
        go_wp2
        go_ret
        exact ⟨by rw [H.out]; rfl, rfl⟩
      · by_cases b2 : 57 < ((s[k]'hlt).toNat : Int)
        · have H := Lib.hid (show digsB s.data.toList = false by unfold digsB; rw [not_all_at hlt' (.inr (by rw [HB.out]; exact b2))]; rfl)
          clear HB hlt'
          go_wp2
          go_ret
          exact ⟨by rw [H.out]; rfl, rfl⟩
        · have H := Lib.hid (all_take_succ HA.out hlt' (by rw [HB.out]; exact b1) (by rw [HB.out]; exact b2))
          clear HB hlt'
          go_wp2
          go_round
          case rel => exact ⟨k + 1, by omega, by go_num, H.out⟩
          case measure => simp [intOf]; omega
    · have ha : s.data.toList.all Num.isDig = true := by have := HA.out; rw [List.take_of_length_le (by rw [size_toList]; omega)] at this; exact this
      by_cases h0 : (0 : Int) < s.size
      · have H := Lib.hid (show digsB s.data.toList = true by
          unfold digsB
          rw [ha]
          have : s.data.toList ≠ [] := by intro e; rw [← size_toList, e] at h0; simp at h0
          simpa using this)
        clear ha
        go_wp2
        go_ret
        exact ⟨by rw [H.out]; first | rfl | (simp; done) | (show Ending.returned (.bool (decide (0 < s.size))) = _; rw [decide_eq_true (by omega)]) | (show Ending.returned (.bool (decide (0 < s.size))) = _; rw [decide_eq_false (by omega)]), rfl⟩
      · have H := Lib.hid (show digsB s.data.toList = false by
          unfold digsB
          have : s.data.toList = [] := List.eq_nil_of_length_eq_zero (by rw [size_toList]; omega)
          rw [this]; rfl)
        clear ha
        go_wp2
        go_ret
        exact ⟨by rw [H.out]; first | rfl | (simp; done) | (show Ending.returned (.bool (decide (0 < s.size))) = _; rw [decide_eq_true (by omega)]) | (show Ending.returned (.bool (decide (0 < s.size))) = _; rw [decide_eq_false (by omega)]), rfl⟩

/-! ### divided -/
end Go.Proofs.YtahnkmkmoalbhaaGreatDoor

/- The reference implementation of layer 3: TextOf, Text: the walks. -/
namespace Go.Proofs.YtahnkmkmoalbhaaGreatDoor
open Go.RowKit Fra

/-- what TextOf has put together when its digits are long enough -/
structure PadAt (z : Int) (n : Nat) (r A G : ByteArray) (L : Nat) : Prop where
  size : r.size = L + n
  pos : 0 < L
  eA : r.extract 0 L = A
  eG : r.extract L r.size = G
  AL : A.data.toList = Lib.decDigits (z.natAbs / 10 ^ n)
  GL : G.data.toList = Num.fixd n z.natAbs
theorem PadAt.of {z : Int} {n j : Nat} {r : ByteArray} (hr : r.data.toList = List.replicate j 48 ++ Num.digs z.natAbs) (hj : j = 0 ∨ r.size ≤ n + 1) (hx : n + 1 ≤ r.size) : ∃ A G L, PadAt z n r A G L := by
  have hs : r.size = j + (Num.digs z.natAbs).length := by rw [← size_toList, hr]; simp
  have hj2 : j = n + 1 - (Num.digs z.natAbs).length := by omega
  have hl : r.data.toList = Lib.decDigits (z.natAbs / 10 ^ n) ++ Num.fixd n z.natAbs := by rw [← Num.pad_split, hr, hj2]
  have h1 := Num.at_point z.natAbs n
  rw [← hl, size_toList] at h1
  obtain ⟨L, hL⟩ : ∃ L, L = (Lib.decDigits (z.natAbs / 10 ^ n)).length := ⟨_, rfl⟩
  refine ⟨_, _, L, by omega, by rw [hL]; exact List.length_pos_iff.mpr (Num.decDigits_ne _), rfl, rfl, ?_, ?_⟩
  · rw [ByteArray.data_extract, Array.toList_extract, List.extract_eq_take_drop, hl, hL]
    simp
  · rw [ByteArray.data_extract, Array.toList_extract, List.extract_eq_take_drop, hl, show r.size = L + n by omega, hL]
    simp
    rw [List.take_of_length_le (by rw [Num.fixd_length]; exact Nat.le_refl _)]
theorem text_list {z : Int} {n : Nat} {r A G : ByteArray} {L : Nat} (h : PadAt z n r A G L) (hn : n ≠ 0) : (if z < 0 then [45] else []) ++ (A.data.toList ++ 46 :: G.data.toList) = (txt z n).data.toList := by
  rw [txt_list, Num.decT_list, if_neg hn, h.AL, h.GL]
theorem text_list0 {z : Int} {r A G : ByteArray} {L : Nat} (h : PadAt z 0 r A G L) : (if z < 0 then [45] else []) ++ r.data.toList = (txt z 0).data.toList := by
  rw [txt_list, Num.decT_list, if_pos rfl, ← h.AL, ← h.eA]
  have e : L = r.size := by have := h.size; omega
  rw [e]
  simp
theorem digs_cap {z : Int} {k : Nat} (h : Cap k z) : (Num.digs z.natAbs).length ≤ k + 1 := by
  unfold Num.digs
  split
  · simp
  · exact digits_len h

set_option maxRecDepth 100000 in
set_option maxHeartbeats 4000000 in
theorem kTextOf_p {s : ByteArray} {z : Int} (n : Nat) (w : World) (hs : s.size ≤ 1000) (hz : vS s = z) (hn : n ≤ 1000) (hsg : ¬ z < 0) :
    Calls Tryz.prog 62 #[.string s, .int .i64 (n : Int)] w fun e w' => e = .returned (.string (txt z n)) ∧ Below w.heap.size w w' := by
  have hdl := digs_cap (Cap.of hs hz)
  have HC := Lib.hid (show ∀ W, Calls Tryz.prog 81 #[.string s] W fun e w' => e = .returned (.string (cS z)) ∧ W = w' from fun W => by rw [← hz]; exact rCanonical_any s W (by omega))
  have hnw : IntKind.i64.wrap ((n : Int) + 1) = (n : Int) + 1 := IntWalk.i64_in _ (by omega)
  obtain ⟨D, hD⟩ : ∃ D, D = cS z := ⟨_, rfl⟩
  have hDl : D.data.toList = Num.digs z.natAbs := by rw [hD]; unfold cS Num.canon; rw [if_neg hsg]
  have HT := Lib.hid hD
  have HDL := Lib.hid hDl
  have HSG := Lib.hid hsg
  by_cases hz0 : z = 0
  · have hDn : D = ⟨#[]⟩ := by rw [hD, hz0, cS_zero]
    clear hsg hs hz hD hDl hz0
    go_enter Tryz.func62, Tryz.ntmps62
    go_wp2_with fail
    refine (HC.out w).mono ?_
    rintro _ _ ⟨rfl, rfl⟩
    rw [← HT.out]
    subst hDn
    go_wp2_with fail
    obtain ⟨V, hV⟩ : ∃ V, V = w := ⟨_, rfl⟩
    have hBV : Below w.heap.size w V := by rw [hV]; exact Below.refl _ _
    rw [← hV]
    clear hV
    go_loopw [5] (fun sv wr => ∃ (j : Nat) (r : ByteArray), r.data.toList = List.replicate j 48 ++ Num.digs z.natAbs ∧ Hid (j = 0 ∨ r.size ≤ n + 1) ∧ j ≤ n + 1 ∧ sv = .string r ∧ V = wr) (fun sv _ => match sv with | .string r => n + 1 - r.size | _ => 0)
    case atStart => exact ⟨0, ⟨#[]⟩, by rw [HDL.out]; rfl, Or.inl rfl, by omega, rfl, rfl⟩
    case round =>
      obtain ⟨j, r, hr, hj, hjn, rfl, rfl⟩ := hrel
      have hrs : r.size = j + (Num.digs z.natAbs).length := by rw [← size_toList, hr]; simp
      have hrl : r.size ≤ 5000 := by omega
      have HR := Lib.hid hr
      have HRS := Lib.hid hrs
      clear hr hrs
      by_cases hlt : (r.size : Int) < (n : Int) + 1
      · have hb : ¬ 9223372036854775807 < 1 + r.size := by omega
        go_wp2_with fail
        go_roundw
        case rel =>
          refine ⟨j + 1, ⟨#[48]⟩ ++ r, ?_, ?_, ?_, rfl, trivial⟩
          · rw [ByteArray.data_append, Array.toList_append, HR.out, List.replicate_succ]; rfl
          · right; rw [ByteArray.size_append]; show 1 + r.size ≤ n + 1; omega
          · have := HRS.out; omega
        case measure =>
          show n + 1 - (ByteArray.mk #[48] ++ r).size < n + 1 - r.size
          rw [ByteArray.size_append]
          show n + 1 - (1 + r.size) < _
          omega
      · obtain ⟨A, G, L, hP⟩ := PadAt.of HR.out hj.out (by omega)
        have HP := Lib.hid hP
        clear hj hjn
        by_cases hn0 : n = 0
        · subst hn0
          have HE := Lib.hid (text_list0 hP)
          clear hP
          have hb2 : ¬ 9223372036854775807 < 0 + r.size := by omega
          go_wp2_with fail
          go_ret
          refine ⟨?_, hBV⟩
          refine congrArg (fun b => Ending.returned (.string b)) (ByteArray.ext (Array.toList_inj.1 ?_))
          rw [← HE.out, if_neg (by have := HSG.out; omega)]
          simp
        · have HE := Lib.hid (text_list hP hn0)
          have hsz := hP.size
          have hLp := hP.pos
          have hAs : A.size = L := by rw [← hP.eA, ByteArray.size_extract]; omega
          have hGs : G.size = n := by rw [← hP.eG, ByteArray.size_extract]; omega
          have hpt : IntKind.i64.wrap ((r.size : Int) - n) = (L : Int) := by rw [IntWalk.i64_in _ (by omega)]; omega
          have hlx : L ≤ r.size := by omega
          have hn1 : ((n : Int) == 0) = false := by simp; omega
          have eA := hP.eA
          have eG := hP.eG
          have hb2 : ¬ 9223372036854775807 < 0 + A.size := by omega
          have hb3 : ¬ 9223372036854775807 < 0 + A.size + 1 := by omega
          have hb4 : ¬ 9223372036854775807 < 0 + A.size + 1 + G.size := by omega
          have HSZ := Lib.hid hsz
          clear hP hsz hn0 hLp
          go_wp2_with fail
          go_region
          all_goals go_wp2_with fail
          all_goals go_ret
          all_goals refine ⟨?_, (by first | exact hBV | exact below_drewN hBV _ | exact below_drewN hBV 1)⟩
          all_goals refine congrArg (fun b => Ending.returned (.string b)) (ByteArray.ext (Array.toList_inj.1 ?_))
          all_goals rw [← HE.out, if_neg (by have := HSG.out; omega)]
          all_goals simp
  · have hts : D.size = (Num.digs z.natAbs).length := by rw [← size_toList, hDl]
    have hdn : Num.digs z.natAbs ≠ [] := by intro e; have := Num.digs_nil.mp e; omega
    have h0 : 0 < D.size := by rw [hts]; exact List.length_pos_iff.mpr hdn
    have hne : (D.toList.isEmpty) = false := by rw [hD, eq_nil]; exact decide_eq_false hz0
    have hb0 : (((D[0]'h0).toNat : Int) == 45) = false := by
      rw [← byte_at D 0 h0 (by rw [size_toList]; exact h0)]
      have h1 : Num.isDig (D.data.toList[0]'(by rw [size_toList]; exact h0)) = true := by
        have h2 := List.all_eq_true.mp (Num.Plain.digs z.natAbs).1 (D.data.toList[0]'(by rw [size_toList]; exact h0)) (by simp only [hDl]; exact List.getElem_mem _)
        exact h2
      have h3 := (Num.isDig_iff _).mp h1
      simp only [beq_eq_false_iff_ne, ne_eq]
      omega
    clear hsg hs hz hD hDl hz0 hts hdn
    go_enter Tryz.func62, Tryz.ntmps62
    go_wp2_with fail
    refine (HC.out w).mono ?_
    rintro _ _ ⟨rfl, rfl⟩
    rw [← HT.out]
    go_wp2_with fail
    obtain ⟨V, hV⟩ : ∃ V, V = w := ⟨_, rfl⟩
    have hBV : Below w.heap.size w V := by rw [hV]; exact Below.refl _ _
    rw [← hV]
    clear hV
    go_loopw [5] (fun sv wr => ∃ (j : Nat) (r : ByteArray), r.data.toList = List.replicate j 48 ++ Num.digs z.natAbs ∧ Hid (j = 0 ∨ r.size ≤ n + 1) ∧ j ≤ n + 1 ∧ sv = .string r ∧ V = wr) (fun sv _ => match sv with | .string r => n + 1 - r.size | _ => 0)
    case atStart => exact ⟨0, D, by rw [HDL.out]; rfl, Or.inl rfl, by omega, rfl, rfl⟩
    case round =>
      obtain ⟨j, r, hr, hj, hjn, rfl, rfl⟩ := hrel
      have hrs : r.size = j + (Num.digs z.natAbs).length := by rw [← size_toList, hr]; simp
      have hrl : r.size ≤ 5000 := by omega
      have HR := Lib.hid hr
      have HRS := Lib.hid hrs
      clear hr hrs
      by_cases hlt : (r.size : Int) < (n : Int) + 1
      · have hb : ¬ 9223372036854775807 < 1 + r.size := by omega
        go_wp2_with fail
        go_roundw
        case rel =>
          refine ⟨j + 1, ⟨#[48]⟩ ++ r, ?_, ?_, ?_, rfl, trivial⟩
          · rw [ByteArray.data_append, Array.toList_append, HR.out, List.replicate_succ]; rfl
          · right; rw [ByteArray.size_append]; show 1 + r.size ≤ n + 1; omega
          · have := HRS.out; omega
        case measure =>
          show n + 1 - (ByteArray.mk #[48] ++ r).size < n + 1 - r.size
          rw [ByteArray.size_append]
          show n + 1 - (1 + r.size) < _
          omega
      · obtain ⟨A, G, L, hP⟩ := PadAt.of HR.out hj.out (by omega)
        have HP := Lib.hid hP
        clear hj hjn
        by_cases hn0 : n = 0
        · subst hn0
          have HE := Lib.hid (text_list0 hP)
          clear hP
          have hb2 : ¬ 9223372036854775807 < 0 + r.size := by omega
          go_wp2_with fail
          go_ret
          refine ⟨?_, hBV⟩
          refine congrArg (fun b => Ending.returned (.string b)) (ByteArray.ext (Array.toList_inj.1 ?_))
          rw [← HE.out, if_neg (by have := HSG.out; omega)]
          simp
        · have HE := Lib.hid (text_list hP hn0)
          have hsz := hP.size
          have hLp := hP.pos
          have hAs : A.size = L := by rw [← hP.eA, ByteArray.size_extract]; omega
          have hGs : G.size = n := by rw [← hP.eG, ByteArray.size_extract]; omega
          have hpt : IntKind.i64.wrap ((r.size : Int) - n) = (L : Int) := by rw [IntWalk.i64_in _ (by omega)]; omega
          have hlx : L ≤ r.size := by omega
          have hn1 : ((n : Int) == 0) = false := by simp; omega
          have eA := hP.eA
          have eG := hP.eG
          have hb2 : ¬ 9223372036854775807 < 0 + A.size := by omega
          have hb3 : ¬ 9223372036854775807 < 0 + A.size + 1 := by omega
          have hb4 : ¬ 9223372036854775807 < 0 + A.size + 1 + G.size := by omega
          have HSZ := Lib.hid hsz
          clear hP hsz hn0 hLp
          go_wp2_with fail
          go_region
          all_goals go_wp2_with fail
          all_goals go_ret
          all_goals refine ⟨?_, (by first | exact hBV | exact below_drewN hBV _ | exact below_drewN hBV 1)⟩
          all_goals refine congrArg (fun b => Ending.returned (.string b)) (ByteArray.ext (Array.toList_inj.1 ?_))
          all_goals rw [← HE.out, if_neg (by have := HSG.out; omega)]
          all_goals simp

set_option maxRecDepth 100000 in
set_option maxHeartbeats 4000000 in
theorem kTextOf_n {s : ByteArray} {z : Int} (n : Nat) (w : World) (hs : s.size ≤ 1000) (hz : vS s = z) (hn : n ≤ 1000) (hsg : z < 0) :
    Calls Tryz.prog 62 #[.string s, .int .i64 (n : Int)] w fun e w' => e = .returned (.string (txt z n)) ∧ Below w.heap.size w w' := by
  have hdl := digs_cap (Cap.of hs hz)
  have HC := Lib.hid (show ∀ W, Calls Tryz.prog 81 #[.string s] W fun e w' => e = .returned (.string (cS z)) ∧ W = w' from fun W => by rw [← hz]; exact rCanonical_any s W (by omega))
  have hnw : IntKind.i64.wrap ((n : Int) + 1) = (n : Int) + 1 := IntWalk.i64_in _ (by omega)
  obtain ⟨D, hD⟩ : ∃ D, D = ByteArray.mk (Num.digs z.natAbs).toArray := ⟨_, rfl⟩
  obtain ⟨t, ht⟩ : ∃ t, t = cS z := ⟨_, rfl⟩
  have htl : t.data.toList = 45 :: Num.digs z.natAbs := by rw [ht]; unfold cS Num.canon; rw [if_pos hsg]
  have hts : t.size = (Num.digs z.natAbs).length + 1 := by rw [← size_toList, htl]; rfl
  have h0 : 0 < t.size := by omega
  have hne : (t.toList.isEmpty) = false := by rw [ht, eq_nil]; exact decide_eq_false (by omega)
  have hb0 : ((t[0]'h0).toNat : Int) = 45 := by
    rw [← byte_at t 0 h0 (by rw [size_toList]; exact h0)]
    simp only [htl]
    rfl
  have hx : t.extract 1 t.size = D := by
    apply ByteArray.ext
    apply Array.toList_inj.1
    rw [ByteArray.data_extract, Array.toList_extract, List.extract_eq_take_drop, htl, hD, hts]
    simp
  have hDl : D.data.toList = Num.digs z.natAbs := by rw [hD]
  have h1 : (1 : Int) ≤ t.size := by omega
  have HT := Lib.hid ht
  have HX := Lib.hid hx
  have HDL := Lib.hid hDl
  clear ht htl hts hx hDl hD
  have HSG := Lib.hid hsg
  clear hsg hs hz
  go_enter Tryz.func62, Tryz.ntmps62
  go_wp2_with fail
  refine (HC.out w).mono ?_
  rintro _ _ ⟨rfl, rfl⟩
  rw [← HT.out]
  go_wp2_with fail
  have hx := HX.out
  go_region
  clear hx

  obtain ⟨V, hV⟩ : ∃ V, V = w.drew := ⟨_, rfl⟩
  have hBV : Below w.heap.size w V := by rw [hV]; exact below_drewN (Below.refl _ _) 1
  rw [← hV]
  clear hV
  go_wp2_with fail
  go_loopw [5] (fun sv wr => ∃ (j : Nat) (r : ByteArray), r.data.toList = List.replicate j 48 ++ Num.digs z.natAbs ∧ Hid (j = 0 ∨ r.size ≤ n + 1) ∧ j ≤ n + 1 ∧ sv = .string r ∧ V = wr) (fun sv _ => match sv with | .string r => n + 1 - r.size | _ => 0)
  case atStart => exact ⟨0, D, by rw [HDL.out]; rfl, Or.inl rfl, by omega, rfl, rfl⟩
  case round =>
    obtain ⟨j, r, hr, hj, hjn, rfl, rfl⟩ := hrel
    have hrs : r.size = j + (Num.digs z.natAbs).length := by rw [← size_toList, hr]; simp
    have hrl : r.size ≤ 5000 := by omega
    have HR := Lib.hid hr
    have HRS := Lib.hid hrs
    clear hr hrs
    by_cases hlt : (r.size : Int) < (n : Int) + 1
    · have hb : ¬ 9223372036854775807 < 1 + r.size := by omega
      go_wp2_with fail
      go_roundw
      case rel =>
        refine ⟨j + 1, ⟨#[48]⟩ ++ r, ?_, ?_, ?_, rfl, trivial⟩
        · rw [ByteArray.data_append, Array.toList_append, HR.out, List.replicate_succ]; rfl
        · right; rw [ByteArray.size_append]; show 1 + r.size ≤ n + 1; omega
        · have := HRS.out; omega
      case measure =>
        show n + 1 - (ByteArray.mk #[48] ++ r).size < n + 1 - r.size
        rw [ByteArray.size_append]
        show n + 1 - (1 + r.size) < _
        omega
    · obtain ⟨A, G, L, hP⟩ := PadAt.of HR.out hj.out (by omega)
      have HP := Lib.hid hP
      clear hj hjn
      by_cases hn0 : n = 0
      · subst hn0
        have HE := Lib.hid (text_list0 hP)
        clear hP
        have hb2 : ¬ 9223372036854775807 < 1 + r.size := by omega
        go_wp2_with fail
        go_ret
        refine ⟨?_, hBV⟩
        refine congrArg (fun b => Ending.returned (.string b)) (ByteArray.ext (Array.toList_inj.1 ?_))
        rw [← HE.out, if_pos (by have := HSG.out; omega)]
        simp
      · have HE := Lib.hid (text_list hP hn0)
        have hsz := hP.size
        have hLp := hP.pos
        have hAs : A.size = L := by rw [← hP.eA, ByteArray.size_extract]; omega
        have hGs : G.size = n := by rw [← hP.eG, ByteArray.size_extract]; omega
        have hpt : IntKind.i64.wrap ((r.size : Int) - n) = (L : Int) := by rw [IntWalk.i64_in _ (by omega)]; omega
        have hlx : L ≤ r.size := by omega
        have hn1 : ((n : Int) == 0) = false := by simp; omega
        have eA := hP.eA
        have eG := hP.eG
        have hb2 : ¬ 9223372036854775807 < 1 + A.size := by omega
        have hb3 : ¬ 9223372036854775807 < 1 + A.size + 1 := by omega
        have hb4 : ¬ 9223372036854775807 < 1 + A.size + 1 + G.size := by omega
        have HSZ := Lib.hid hsz
        clear hP hsz hn0 hLp
        go_wp2_with fail
        go_region
        all_goals go_wp2_with fail
        all_goals go_ret
        all_goals refine ⟨?_, (by first | exact hBV | exact below_drewN hBV _ | exact below_drewN hBV 1)⟩
        all_goals refine congrArg (fun b => Ending.returned (.string b)) (ByteArray.ext (Array.toList_inj.1 ?_))
        all_goals rw [← HE.out, if_pos (by have := HSG.out; omega)]
        all_goals simp

theorem kTextOf_any {s : ByteArray} {z : Int} (n : Nat) (w : World) (hs : s.size ≤ 1000) (hz : vS s = z) (hn : n ≤ 1000) :
    Calls Tryz.prog 62 #[.string s, .int .i64 (n : Int)] w fun e w' => e = .returned (.string (txt z n)) ∧ Below w.heap.size w w' := by
  by_cases h : z < 0
  · exact kTextOf_n n w hs hz hn h
  · exact kTextOf_p n w hs hz hn h
end Go.Proofs.YtahnkmkmoalbhaaGreatDoor
