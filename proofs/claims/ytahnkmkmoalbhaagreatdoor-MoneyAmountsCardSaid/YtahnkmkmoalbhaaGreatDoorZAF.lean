/- The program's layer 3: write: the walk. -/
import Derived.Test.YtahnkmkmoalbhaaGreatDoorZAC
import Derived.Test.YtahnkmkmoalbhaaGreatDoorZAD
import Derived.Test.YtahnkmkmoalbhaaGreatDoorZAE
import Derived.Deep.DeepCutAuto
import Derived.Laws.NewBlocks
import Derived.Lib.Strings
import Init
namespace Go.Proofs.YtahnkmkmoalbhaaGreatDoor
open Go.RowKit Fra

theorem cutP_itoa (z : Int) (w : World) :
    Calls Tryz.prog 118 #[.string (pS z), .string ⟨#[45]⟩] w fun e w' => e = .returned (.tuple #[.string ⟨(Lib.decDigits z.natAbs).toArray⟩, .bool (decide (z < 0))]) ∧ w = w' := by
  have h := Tryz.strings_CutPrefix (pS z) ⟨#[45]⟩ w
  have e := cut_shelf (pS z).data.toList
  rw [pS_list, Num.cut_itoa] at e
  have e1 := (Prod.mk.inj e).1
  have e2 := (Prod.mk.inj e).2
  rw [pS_list, show (ByteArray.mk #[45]).data.toList = [45] from rfl, ← e1, ← e2] at h
  exact h.mono fun _ _ k => ⟨k.1, k.2.symm⟩

/-- a builder that this call has made, and what it holds -/
abbrev Bld (w W : World) (b : Nat) (l : List UInt8) : Prop := Lib.IsBuilder 145 5 w.heap.size b (Lib.byteCells l) W
theorem wByte {w W : World} {b : Nat} {l : List UInt8} (c : UInt8) (h : Bld w W b l) (hl : l.length ≤ 1000000) (hb : Below w.heap.size w W) :
    Calls Tryz.prog 121 #[.pointer (some ⟨b, 0, none⟩), .int .u8 c.toNat] W fun e w' => e = .returned .nilIface ∧ Bld w w' b (l ++ [c]) ∧ Below w.heap.size w w' := by
  refine (Tryz.Builder_WriteByte w.heap.size b (Lib.byteCells l) (c.toNat : Int) W h (by rw [Lib.byteCells_length]; omega) hb.size).mono ?_
  rintro e w' ⟨rfl, h1, h2⟩
  refine ⟨rfl, Or.inr ?_, hb.trans h2⟩
  rw [Lib.byteCells_append]
  exact h1
theorem wString {w W : World} {b : Nat} {l : List UInt8} (s : ByteArray) (h : Bld w W b l) (hl : l.length + s.size ≤ 10000000) (hb : Below w.heap.size w W) :
    Calls Tryz.prog 122 #[.pointer (some ⟨b, 0, none⟩), .string s] W fun e w' => e = .returned (.tuple #[.int .i64 s.size, .nilIface]) ∧ Bld w w' b (l ++ s.data.toList) ∧ Below w.heap.size w w' := by
  refine (Tryz.Builder_WriteString w.heap.size b (Lib.byteCells l) s W h (by rw [Lib.byteCells_length]; omega) hb.size).mono ?_
  rintro e w' ⟨rfl, h1, h2⟩
  refine ⟨rfl, Or.inr ?_, hb.trans h2⟩
  rw [Lib.byteCells_append, ← Lib.strCells_eq]
  exact h1
theorem wDone {w W : World} {b : Nat} {l : List UInt8} (h : Bld w W b l) (hb : Below w.heap.size w W) :
    Calls Tryz.prog 123 #[.pointer (some ⟨b, 0, none⟩)] W fun e w' => e = .returned (.string ⟨l.toArray⟩) ∧ Below w.heap.size w w' := by
  refine (Tryz.Builder_String_any w.heap.size b l W h hb.size).mono ?_
  rintro e w' ⟨rfl, h2⟩
  exact ⟨rfl, hb.trans h2⟩
theorem Bld.made (w : World) : Bld w (w.alloc (.cells #[.pointer none, .slice none 0 0] 145)) w.heap.size [] := Lib.fresh_isBuilder _ _ w

theorem Bld.other {w W V : World} {b : Nat} {l : List UInt8} (h : Bld w W b l) (hV : Below W.heap.size W V) : Bld w V b l := by
  have key : ∀ p, Lib.BuilderAt 145 5 w.heap.size b p (Lib.byteCells l) W → Lib.BuilderAt 145 5 w.heap.size b p (Lib.byteCells l) V := by
    rintro p ⟨h1, v, h2, h3, h4⟩
    refine ⟨h1, v, ?_, ?_, h4⟩
    · rw [hV.block b (Lib.BuilderAt.lt ⟨h1, v, h2, h3, h4⟩)]; exact h2
    · exact h3.kept (grown_of_below hV none) (by by_cases k : v.ownBlock = none; exact Or.inl k; exact Or.inr k)
  exact h.imp (key _) (key _)

/-- what write puts together -/
structure WriteAt (z : Int) (p : Nat) (D X A F : ByteArray) (k L : Nat) : Prop where
  eD : D = ⟨(Lib.decDigits z.natAbs).toArray⟩
  mx : max (0 : Int) ((p : Int) + 1 - D.size) = k
  eX : (ByteArray.mk (List.replicate k (48 : UInt8)).toArray) ++ D = X
  size : X.size = L + p
  pos : 0 < L
  small : X.size ≤ 200000
  dsmall : D.size ≤ 100001
  ksmall : k ≤ 100000
  eA : X.extract 0 L = A
  eF : X.extract L X.size = F
  AL : A.data.toList = Lib.decDigits (z.natAbs / 10 ^ p)
  FL : F.data.toList = Num.fixd p z.natAbs
  sA : A.size ≤ 200000
  sF : F.size ≤ 200000
theorem WriteAt.of (z : Int) (p : Nat) (hd : (Lib.decDigits z.natAbs).length ≤ 100001) (hp : p ≤ 65536) : ∃ D X A F k L, WriteAt z p D X A F k L := by
  obtain ⟨D, hD⟩ : ∃ D, D = ByteArray.mk (Lib.decDigits z.natAbs).toArray := ⟨_, rfl⟩
  have hDl : D.data.toList = Lib.decDigits z.natAbs := by rw [hD]
  have hDs : D.size = (Lib.decDigits z.natAbs).length := by rw [← size_toList, hDl]
  obtain ⟨k, hk⟩ : ∃ k, k = p + 1 - (Lib.decDigits z.natAbs).length := ⟨_, rfl⟩
  obtain ⟨X, hX⟩ : ∃ X, (ByteArray.mk (List.replicate k (48 : UInt8)).toArray) ++ D = X := ⟨_, rfl⟩
  have hXl : X.data.toList = Lib.decDigits (z.natAbs / 10 ^ p) ++ Num.fixd p z.natAbs := by
    rw [← Num.pad_print, ← hX, ByteArray.data_append, Array.toList_append, hDl, hk]
  have h1 := Num.at_point z.natAbs p
  rw [← hXl, size_toList] at h1
  obtain ⟨L, hL⟩ : ∃ L, L = (Lib.decDigits (z.natAbs / 10 ^ p)).length := ⟨_, rfl⟩
  have hsz : X.size = L + p := by omega
  have hXs : X.size = k + D.size := by
    rw [← hX, ByteArray.size_append]
    show (List.replicate k (48 : UInt8)).toArray.size + D.size = _
    simp
  have hA : (X.extract 0 L).data.toList = Lib.decDigits (z.natAbs / 10 ^ p) := by
    rw [ByteArray.data_extract, Array.toList_extract, List.extract_eq_take_drop, hXl, hL]
    simp
  have hF : (X.extract L X.size).data.toList = Num.fixd p z.natAbs := by
    rw [ByteArray.data_extract, Array.toList_extract, List.extract_eq_take_drop, hXl, hsz, hL]
    simp
    rw [List.take_of_length_le (by rw [Num.fixd_length]; exact Nat.le_refl _)]
  refine ⟨D, X, _, _, k, L, hD, by omega, hX, hsz, ?_, by omega, by omega, by omega, rfl, rfl, hA, hF, ?_, ?_⟩
  · rw [hL]; exact List.length_pos_iff.mpr (Num.decDigits_ne _)
  · rw [← size_toList, hA]; omega
  · rw [← size_toList, hF, Num.fixd_length]; omega

set_option maxRecDepth 100000 in
set_option maxHeartbeats 1000000 in
theorem dWrite_n0 (s : ByteArray) (z : Int) (p : Nat) (w : World) (hs : s.size ≤ 4294967295) (hz : vS s = z) (hd : (Lib.decDigits z.natAbs).length ≤ 100001) (hp : p ≤ 65536) (hn : z < 0) (hp0 : p = 0) :
    Calls Tryz.prog 87 #[.string s, .int .i64 (p : Int)] w fun e w' => e = .returned (.string ⟨(Num.decT z p).toArray⟩) ∧ Below w.heap.size w w' := by
  obtain ⟨D, X, A, F, k, L, hW⟩ := WriteAt.of z p hd hp
  have HE := Lib.hid (show Num.decT z p = (([] ++ [45]) ++ A.data.toList) by rw [Num.decT_list, if_pos hn, if_pos hp0, hW.AL]; simp)
  have hdl := hW.dsmall
  have hks := hW.ksmall
  have HM := Lib.hid (show max (0 : Int) (1 - (D.size : Int)) = (k : Int) by have := hW.mx; omega)
  have HXS := Lib.hid hW.small
  have HSZ := Lib.hid hW.size
  have HL := Lib.hid hW.pos
  obtain ⟨r, hr⟩ : ∃ r, r = ByteArray.mk (List.replicate k (48 : UInt8)).toArray := ⟨_, rfl⟩
  have HR := Lib.hid (show ByteArray.mk (Lib.repeatL (ByteArray.mk #[48]).data.toList k).toArray = r by rw [hr, ← repeat_zero])
  have HX := Lib.hid (show r ++ D = X by rw [hr]; exact hW.eX)
  have HRS := Lib.hid (show r.size = k by rw [hr]; show (List.replicate k (48 : UInt8)).toArray.size = k; simp)
  have HD := Lib.hid hW.eD
  have HA := Lib.hid (And.intro hW.eA hW.sA)
  have HF := Lib.hid (And.intro hW.eF hW.sF)
  have HAL := Lib.hid (show A.data.toList.length ≤ 200000 by rw [size_toList]; exact hW.sA)
  have HZ := Lib.hid hz
  subst hp0
  have HN := Lib.hid (decide_eq_true hn)
  clear hz hW hr hd hn
  go_enter Tryz.func87, Tryz.ntmps87
  go_wp2_with fail
  refine (print_any s w (by omega)).mono ?_
  rintro _ _ ⟨rfl, rfl⟩
  rw [HZ.out]
  go_wp2_with fail
  refine (cutP_itoa z w).mono ?_
  rintro _ _ ⟨rfl, rfl⟩
  rw [HN.out, ← HD.out]
  go_wp2_with fail
  have hT := Bld.made w
  have hB : Below w.heap.size w (w.alloc (.cells #[.pointer none, .slice none 0 0] 145)) := (Below.refl _ _).alloc (Nat.le_refl _) _
  obtain ⟨b, hb⟩ : ∃ b, b = w.heap.size := ⟨_, rfl⟩
  obtain ⟨W1, hW1⟩ : ∃ W1, W1 = w.alloc (.cells #[.pointer none, .slice none 0 0] 145) := ⟨_, rfl⟩
  replace hT : Bld w W1 b [] := by rw [hW1, hb]; exact hT
  replace hB : Below w.heap.size w W1 := by rw [hW1]; exact hB
  rw [← hW1, ← hb]
  clear hW1 hb
  refine (wByte 45 hT (by first | decide | omega | (simp; done) | (simp; omega)) hB).mono ?_
  rintro _ W2 ⟨rfl, hT2, hB2⟩
  clear hT hB
  have hT := hT2
  have hB := hB2
  clear hT2 hB2
  go_wp2_with fail
  rw [HM.out]
  refine (Tryz.strings_Repeat ⟨#[48]⟩ k W2 (by omega) (by show 1 * k ≤ _; omega)).mono ?_
  rintro _ V ⟨rfl, hV⟩
  rw [HR.out]
  replace hT := Bld.other hT hV
  replace hB := hB.trans (hV.mono hB.size)
  clear hV
  have hb1 : ¬ 9223372036854775807 < r.size + D.size := by have := HRS.out; omega
  go_upto_region 6 with fail
  rw [HX.out]
  clear hb1 hdl hks
  have hxs := HXS.out
  obtain ⟨W3, hVW⟩ : ∃ W, W = V := ⟨_, rfl⟩
  rw [← hVW] at hT hB
  rw [← hVW]
  clear hVW
  go_wp2_with fail
  rw [show X = A by have := HA.out.1; rw [show L = X.size by have := HSZ.out; omega] at this; simpa using this]
  have hsa := HA.out.2
  refine (wString A hT (by first | decide | omega | (simp; done) | (simp; omega)) hB).mono ?_
  rintro _ W4 ⟨rfl, hT2, hB2⟩
  clear hT hB
  have hT := hT2
  have hB := hB2
  clear hT2 hB2
  clear hsa
  go_wp2_with fail
  refine (wDone hT hB).mono ?_
  rintro _ U ⟨rfl, hU⟩
  go_wp2_with fail
  go_ret
  exact ⟨by rw [HE.out]; first | rfl | simp, hU⟩

set_option maxRecDepth 100000 in
set_option maxHeartbeats 1000000 in
theorem dWrite_n1 (s : ByteArray) (z : Int) (p : Nat) (w : World) (hs : s.size ≤ 4294967295) (hz : vS s = z) (hd : (Lib.decDigits z.natAbs).length ≤ 100001) (hp : p ≤ 65536) (hn : z < 0) (hp0 : 0 < p) :
    Calls Tryz.prog 87 #[.string s, .int .i64 (p : Int)] w fun e w' => e = .returned (.string ⟨(Num.decT z p).toArray⟩) ∧ Below w.heap.size w w' := by
  obtain ⟨D, X, A, F, k, L, hW⟩ := WriteAt.of z p hd hp
  have HE := Lib.hid (show Num.decT z p = (((([] ++ [45]) ++ A.data.toList) ++ [46]) ++ F.data.toList) by rw [Num.decT_list, if_pos hn, if_neg (by omega), hW.AL, hW.FL]; simp)
  have hdl := hW.dsmall
  have hks := hW.ksmall
  have HM := Lib.hid hW.mx
  have HXS := Lib.hid hW.small
  have HSZ := Lib.hid hW.size
  have HL := Lib.hid hW.pos
  obtain ⟨r, hr⟩ : ∃ r, r = ByteArray.mk (List.replicate k (48 : UInt8)).toArray := ⟨_, rfl⟩
  have HR := Lib.hid (show ByteArray.mk (Lib.repeatL (ByteArray.mk #[48]).data.toList k).toArray = r by rw [hr, ← repeat_zero])
  have HX := Lib.hid (show r ++ D = X by rw [hr]; exact hW.eX)
  have HRS := Lib.hid (show r.size = k by rw [hr]; show (List.replicate k (48 : UInt8)).toArray.size = k; simp)
  have HD := Lib.hid hW.eD
  have HA := Lib.hid (And.intro hW.eA hW.sA)
  have HF := Lib.hid (And.intro hW.eF hW.sF)
  have HAL := Lib.hid (show A.data.toList.length ≤ 200000 by rw [size_toList]; exact hW.sA)
  have HZ := Lib.hid hz
  have HN := Lib.hid (decide_eq_true hn)
  clear hz hW hr hd hn
  go_enter Tryz.func87, Tryz.ntmps87
  go_wp2_with fail
  refine (print_any s w (by omega)).mono ?_
  rintro _ _ ⟨rfl, rfl⟩
  rw [HZ.out]
  go_wp2_with fail
  refine (cutP_itoa z w).mono ?_
  rintro _ _ ⟨rfl, rfl⟩
  rw [HN.out, ← HD.out]
  go_wp2_with fail
  have hT := Bld.made w
  have hB : Below w.heap.size w (w.alloc (.cells #[.pointer none, .slice none 0 0] 145)) := (Below.refl _ _).alloc (Nat.le_refl _) _
  obtain ⟨b, hb⟩ : ∃ b, b = w.heap.size := ⟨_, rfl⟩
  obtain ⟨W1, hW1⟩ : ∃ W1, W1 = w.alloc (.cells #[.pointer none, .slice none 0 0] 145) := ⟨_, rfl⟩
  replace hT : Bld w W1 b [] := by rw [hW1, hb]; exact hT
  replace hB : Below w.heap.size w W1 := by rw [hW1]; exact hB
  rw [← hW1, ← hb]
  clear hW1 hb
  refine (wByte 45 hT (by first | decide | omega | (simp; done) | (simp; omega)) hB).mono ?_
  rintro _ W2 ⟨rfl, hT2, hB2⟩
  clear hT hB
  have hT := hT2
  have hB := hB2
  clear hT2 hB2
  go_wp2_with fail
  rw [HM.out]
  refine (Tryz.strings_Repeat ⟨#[48]⟩ k W2 (by omega) (by show 1 * k ≤ _; omega)).mono ?_
  rintro _ V ⟨rfl, hV⟩
  rw [HR.out]
  replace hT := Bld.other hT hV
  replace hB := hB.trans (hV.mono hB.size)
  clear hV
  have hb1 : ¬ 9223372036854775807 < r.size + D.size := by have := HRS.out; omega
  go_upto_region 6 with fail
  rw [HX.out]
  clear hb1 hdl hks
  have hxs := HXS.out
  have hpt : IntKind.i64.wrap ((X.size : Int) - p) = (L : Int) := by have := HSZ.out; rw [IntWalk.i64_in _ (by omega)]; omega
  have hlx : L ≤ X.size := by have := HSZ.out; omega
  obtain ⟨W3, hVW⟩ : ∃ W, W = V := ⟨_, rfl⟩
  rw [← hVW] at hT hB
  rw [← hVW]
  clear hVW
  go_wp2_with fail
  rw [HA.out.1]
  have hsa := HA.out.2
  refine (wString A hT (by first | decide | omega | (simp; done) | (simp; omega)) hB).mono ?_
  rintro _ W4 ⟨rfl, hT2, hB2⟩
  clear hT hB
  have hT := hT2
  have hB := hB2
  clear hT2 hB2
  clear hsa
  go_wp2_with fail
  have hal := HAL.out
  have hal2 := HA.out.2
  refine (wByte 46 hT (by first | decide | omega | (simp; done) | (simp; omega)) hB).mono ?_
  rintro _ W5 ⟨rfl, hT2, hB2⟩
  clear hT hB
  have hT := hT2
  have hB := hB2
  clear hT2 hB2
  go_wp2_with fail
  rw [HF.out.1]
  have hsf := HF.out.2
  refine (wString F hT (by first | decide | omega | (simp; done) | (simp; omega)) hB).mono ?_
  rintro _ W6 ⟨rfl, hT2, hB2⟩
  clear hT hB
  have hT := hT2
  have hB := hB2
  clear hT2 hB2
  clear hsf hal hal2
  go_wp2_with fail
  refine (wDone hT hB).mono ?_
  rintro _ U ⟨rfl, hU⟩
  go_wp2_with fail
  go_ret
  exact ⟨by rw [HE.out]; first | rfl | simp, hU⟩

set_option maxRecDepth 100000 in
set_option maxHeartbeats 1000000 in
theorem dWrite_p0 (s : ByteArray) (z : Int) (p : Nat) (w : World) (hs : s.size ≤ 4294967295) (hz : vS s = z) (hd : (Lib.decDigits z.natAbs).length ≤ 100001) (hp : p ≤ 65536) (hn : ¬ z < 0) (hp0 : p = 0) :
    Calls Tryz.prog 87 #[.string s, .int .i64 (p : Int)] w fun e w' => e = .returned (.string ⟨(Num.decT z p).toArray⟩) ∧ Below w.heap.size w w' := by
  obtain ⟨D, X, A, F, k, L, hW⟩ := WriteAt.of z p hd hp
  have HE := Lib.hid (show Num.decT z p = ([] ++ A.data.toList) by rw [Num.decT_list, if_neg hn, if_pos hp0, hW.AL]; simp)
  have hdl := hW.dsmall
  have hks := hW.ksmall
  have HM := Lib.hid (show max (0 : Int) (1 - (D.size : Int)) = (k : Int) by have := hW.mx; omega)
  have HXS := Lib.hid hW.small
  have HSZ := Lib.hid hW.size
  have HL := Lib.hid hW.pos
  obtain ⟨r, hr⟩ : ∃ r, r = ByteArray.mk (List.replicate k (48 : UInt8)).toArray := ⟨_, rfl⟩
  have HR := Lib.hid (show ByteArray.mk (Lib.repeatL (ByteArray.mk #[48]).data.toList k).toArray = r by rw [hr, ← repeat_zero])
  have HX := Lib.hid (show r ++ D = X by rw [hr]; exact hW.eX)
  have HRS := Lib.hid (show r.size = k by rw [hr]; show (List.replicate k (48 : UInt8)).toArray.size = k; simp)
  have HD := Lib.hid hW.eD
  have HA := Lib.hid (And.intro hW.eA hW.sA)
  have HF := Lib.hid (And.intro hW.eF hW.sF)
  have HAL := Lib.hid (show A.data.toList.length ≤ 200000 by rw [size_toList]; exact hW.sA)
  have HZ := Lib.hid hz
  subst hp0
  have HN := Lib.hid (decide_eq_false hn)
  clear hz hW hr hd hn
  go_enter Tryz.func87, Tryz.ntmps87
  go_wp2_with fail
  refine (print_any s w (by omega)).mono ?_
  rintro _ _ ⟨rfl, rfl⟩
  rw [HZ.out]
  go_wp2_with fail
  refine (cutP_itoa z w).mono ?_
  rintro _ _ ⟨rfl, rfl⟩
  rw [HN.out, ← HD.out]
  go_upto_region 5 with fail
  have hT := Bld.made w
  have hB : Below w.heap.size w (w.alloc (.cells #[.pointer none, .slice none 0 0] 145)) := (Below.refl _ _).alloc (Nat.le_refl _) _
  obtain ⟨b, hb⟩ : ∃ b, b = w.heap.size := ⟨_, rfl⟩
  obtain ⟨W1, hW1⟩ : ∃ W1, W1 = w.alloc (.cells #[.pointer none, .slice none 0 0] 145) := ⟨_, rfl⟩
  replace hT : Bld w W1 b [] := by rw [hW1, hb]; exact hT
  replace hB : Below w.heap.size w W1 := by rw [hW1]; exact hB
  rw [← hW1, ← hb]
  clear hW1 hb
  go_wp2_with fail
  rw [HM.out]
  refine (Tryz.strings_Repeat ⟨#[48]⟩ k W1 (by omega) (by show 1 * k ≤ _; omega)).mono ?_
  rintro _ V ⟨rfl, hV⟩
  rw [HR.out]
  replace hT := Bld.other hT hV
  replace hB := hB.trans (hV.mono hB.size)
  clear hV
  have hb1 : ¬ 9223372036854775807 < r.size + D.size := by have := HRS.out; omega
  go_upto_region 6 with fail
  rw [HX.out]
  clear hb1 hdl hks
  have hxs := HXS.out
  obtain ⟨W2, hVW⟩ : ∃ W, W = V := ⟨_, rfl⟩
  rw [← hVW] at hT hB
  rw [← hVW]
  clear hVW
  go_wp2_with fail
  rw [show X = A by have := HA.out.1; rw [show L = X.size by have := HSZ.out; omega] at this; simpa using this]
  have hsa := HA.out.2
  refine (wString A hT (by first | decide | omega | (simp; done) | (simp; omega)) hB).mono ?_
  rintro _ W3 ⟨rfl, hT2, hB2⟩
  clear hT hB
  have hT := hT2
  have hB := hB2
  clear hT2 hB2
  clear hsa
  go_wp2_with fail
  refine (wDone hT hB).mono ?_
  rintro _ U ⟨rfl, hU⟩
  go_wp2_with fail
  go_ret
  exact ⟨by rw [HE.out]; first | rfl | simp, hU⟩

set_option maxRecDepth 100000 in
set_option maxHeartbeats 1000000 in
theorem dWrite_p1 (s : ByteArray) (z : Int) (p : Nat) (w : World) (hs : s.size ≤ 4294967295) (hz : vS s = z) (hd : (Lib.decDigits z.natAbs).length ≤ 100001) (hp : p ≤ 65536) (hn : ¬ z < 0) (hp0 : 0 < p) :
    Calls Tryz.prog 87 #[.string s, .int .i64 (p : Int)] w fun e w' => e = .returned (.string ⟨(Num.decT z p).toArray⟩) ∧ Below w.heap.size w w' := by
  obtain ⟨D, X, A, F, k, L, hW⟩ := WriteAt.of z p hd hp
  have HE := Lib.hid (show Num.decT z p = ((([] ++ A.data.toList) ++ [46]) ++ F.data.toList) by rw [Num.decT_list, if_neg hn, if_neg (by omega), hW.AL, hW.FL]; simp)
  have hdl := hW.dsmall
  have hks := hW.ksmall
  have HM := Lib.hid hW.mx
  have HXS := Lib.hid hW.small
  have HSZ := Lib.hid hW.size
  have HL := Lib.hid hW.pos
  obtain ⟨r, hr⟩ : ∃ r, r = ByteArray.mk (List.replicate k (48 : UInt8)).toArray := ⟨_, rfl⟩
  have HR := Lib.hid (show ByteArray.mk (Lib.repeatL (ByteArray.mk #[48]).data.toList k).toArray = r by rw [hr, ← repeat_zero])
  have HX := Lib.hid (show r ++ D = X by rw [hr]; exact hW.eX)
  have HRS := Lib.hid (show r.size = k by rw [hr]; show (List.replicate k (48 : UInt8)).toArray.size = k; simp)
  have HD := Lib.hid hW.eD
  have HA := Lib.hid (And.intro hW.eA hW.sA)
  have HF := Lib.hid (And.intro hW.eF hW.sF)
  have HAL := Lib.hid (show A.data.toList.length ≤ 200000 by rw [size_toList]; exact hW.sA)
  have HZ := Lib.hid hz
  have HN := Lib.hid (decide_eq_false hn)
  clear hz hW hr hd hn
  go_enter Tryz.func87, Tryz.ntmps87
  go_wp2_with fail
  refine (print_any s w (by omega)).mono ?_
  rintro _ _ ⟨rfl, rfl⟩
  rw [HZ.out]
  go_wp2_with fail
  refine (cutP_itoa z w).mono ?_
  rintro _ _ ⟨rfl, rfl⟩
  rw [HN.out, ← HD.out]
  go_upto_region 5 with fail
  have hT := Bld.made w
  have hB : Below w.heap.size w (w.alloc (.cells #[.pointer none, .slice none 0 0] 145)) := (Below.refl _ _).alloc (Nat.le_refl _) _
  obtain ⟨b, hb⟩ : ∃ b, b = w.heap.size := ⟨_, rfl⟩
  obtain ⟨W1, hW1⟩ : ∃ W1, W1 = w.alloc (.cells #[.pointer none, .slice none 0 0] 145) := ⟨_, rfl⟩
  replace hT : Bld w W1 b [] := by rw [hW1, hb]; exact hT
  replace hB : Below w.heap.size w W1 := by rw [hW1]; exact hB
  rw [← hW1, ← hb]
  clear hW1 hb
  go_wp2_with fail
  rw [HM.out]
  refine (Tryz.strings_Repeat ⟨#[48]⟩ k W1 (by omega) (by show 1 * k ≤ _; omega)).mono ?_
  rintro _ V ⟨rfl, hV⟩
  rw [HR.out]
  replace hT := Bld.other hT hV
  replace hB := hB.trans (hV.mono hB.size)
  clear hV
  have hb1 : ¬ 9223372036854775807 < r.size + D.size := by have := HRS.out; omega
  go_upto_region 6 with fail
  rw [HX.out]
  clear hb1 hdl hks
  have hxs := HXS.out
  have hpt : IntKind.i64.wrap ((X.size : Int) - p) = (L : Int) := by have := HSZ.out; rw [IntWalk.i64_in _ (by omega)]; omega
  have hlx : L ≤ X.size := by have := HSZ.out; omega
  obtain ⟨W2, hVW⟩ : ∃ W, W = V := ⟨_, rfl⟩
  rw [← hVW] at hT hB
  rw [← hVW]
  clear hVW
  go_wp2_with fail
  rw [HA.out.1]
  have hsa := HA.out.2
  refine (wString A hT (by first | decide | omega | (simp; done) | (simp; omega)) hB).mono ?_
  rintro _ W3 ⟨rfl, hT2, hB2⟩
  clear hT hB
  have hT := hT2
  have hB := hB2
  clear hT2 hB2
  clear hsa
  go_wp2_with fail
  have hal := HAL.out
  have hal2 := HA.out.2
  refine (wByte 46 hT (by first | decide | omega | (simp; done) | (simp; omega)) hB).mono ?_
  rintro _ W4 ⟨rfl, hT2, hB2⟩
  clear hT hB
  have hT := hT2
  have hB := hB2
  clear hT2 hB2
  go_wp2_with fail
  rw [HF.out.1]
  have hsf := HF.out.2
  refine (wString F hT (by first | decide | omega | (simp; done) | (simp; omega)) hB).mono ?_
  rintro _ W5 ⟨rfl, hT2, hB2⟩
  clear hT hB
  have hT := hT2
  have hB := hB2
  clear hT2 hB2
  clear hsf hal hal2
  go_wp2_with fail
  refine (wDone hT hB).mono ?_
  rintro _ U ⟨rfl, hU⟩
  go_wp2_with fail
  go_ret
  exact ⟨by rw [HE.out]; first | rfl | simp, hU⟩

theorem dWrite_any (s : ByteArray) (z : Int) (p : Nat) (w : World) (hs : s.size ≤ 4294967295) (hz : vS s = z) (hd : (Lib.decDigits z.natAbs).length ≤ 100001) (hp : p ≤ 65536) :
    Calls Tryz.prog 87 #[.string s, .int .i64 (p : Int)] w fun e w' => e = .returned (.string ⟨(Num.decT z p).toArray⟩) ∧ Below w.heap.size w w' := by
  by_cases hn : z < 0
  · by_cases h0 : p = 0
    · exact dWrite_n0 s z p w hs hz hd hp hn h0
    · exact dWrite_n1 s z p w hs hz hd hp hn (by omega)
  · by_cases h0 : p = 0
    · exact dWrite_p0 s z p w hs hz hd hp hn h0
    · exact dWrite_p1 s z p w hs hz hd hp hn (by omega)

end Go.Proofs.YtahnkmkmoalbhaaGreatDoor

/- The program's layer 3: read, Text, Scale, Format, Fraction, Parse: the walks. -/
namespace Go.Proofs.YtahnkmkmoalbhaaGreatDoor
open Go.RowKit Fra

/-- the text ahead of the first point, and behind it -/
def befS (s : ByteArray) : ByteArray := ⟨(Num.bef s.data.toList).toArray⟩
def behS (s : ByteArray) : ByteArray := ⟨(Num.beh s.data.toList).toArray⟩
theorem befS_size (s : ByteArray) : (befS s).size + (behS s).size ≤ s.size := by
  have h := Num.beh_length s.data.toList
  rw [size_toList] at h
  rw [← size_toList (befS s), ← size_toList (behS s)]
  exact h
theorem behS_len (s : ByteArray) : (behS s).size = (Num.beh s.data.toList).length := by rw [← size_toList (behS s)]; rfl
theorem join_list (s : ByteArray) : (befS s ++ behS s).data.toList = Num.bef s.data.toList ++ Num.beh s.data.toList := by
  rw [ByteArray.data_append, Array.toList_append]; rfl
/-- the units that the program reads -/
def unitsS (s : ByteArray) : Int := Num.val (Num.bef s.data.toList ++ Num.beh s.data.toList)
theorem vS_join (s : ByteArray) : vS (befS s ++ behS s) = unitsS s := by unfold vS unitsS; rw [join_list]
theorem units_cap (s : ByteArray) : Cap s.size (unitsS s) := by
  have h := vS_lt (befS s ++ behS s)
  rw [vS_join] at h
  have h2 := befS_size s
  refine Cap.mono h ?_
  rw [ByteArray.size_append]
  exact h2
theorem digits_len {z : Int} {k : Nat} (h : Cap k z) : (Lib.decDigits z.natAbs).length ≤ k + 1 := by
  by_cases h0 : z.natAbs = 0
  · rw [h0, Num.decDigits_zero]
    show 1 ≤ k + 1
    omega
  · have e : Num.digs z.natAbs = Lib.decDigits z.natAbs := by unfold Num.digs; rw [if_neg h0]
    have h1 := cS_size (z := (z.natAbs : Int)) (k := k) (by unfold Cap at h; omega)
    have h2 : (cS (z.natAbs : Int)).data.toList = Num.digs z.natAbs := by
      unfold cS Num.canon
      rw [if_neg (by omega)]
      rfl
    rw [← size_toList, h2, e] at h1
    exact h1

theorem dCut_any (s : ByteArray) (w : World) (hG : Ground w) (hs : s.size ≤ 65536) :
    Calls Tryz.prog 102 #[.string s, .string ⟨#[46]⟩] w fun e w' => ∃ b, e = .returned (.tuple #[.string (befS s), .string (behS s), .bool b]) ∧ b = decide (Num.dot s.data.toList < s.data.toList.length) ∧ Below w.heap.size w w' ∧ Ground w' := by
  obtain ⟨m, hm⟩ := hG.max
  refine (Tryz.strings_Cut s ⟨#[46]⟩ m w (by omega) hm).mono ?_
  rintro _ _ ⟨rfl, n, rfl⟩
  obtain ⟨h1, h2, h3⟩ := Num.cut_dot s.data.toList
  refine ⟨(Lib.cut s.data.toList [46]).2.2, ?_, h3, below_drewN (Below.refl _ _) n, hG.tab, hG.max⟩
  unfold befS behS
  rw [← h1, ← h2]

/-- is it a decimal text? -/
def isDecS (s : ByteArray) : Bool := Num.isDec s.data.toList
def unitsD (s : ByteArray) : Int := Num.decU s.data.toList
def placesD (s : ByteArray) : Nat := Num.decP s.data.toList
/-- the text of units with places -/
def txt (z : Int) (p : Nat) : ByteArray := ⟨(Num.decT z p).toArray⟩
theorem good_text {s : ByteArray} (h : isDecS s = true) : txt (unitsS s) (behS s).size = s := by
  apply ByteArray.ext
  apply Array.toList_inj.1
  show Num.decT _ _ = _
  rw [behS_len]
  exact (Num.good_iff _).mpr h
theorem unitsS_good {s : ByteArray} (h : isDecS s = true) : unitsS s = unitsD s := Num.val_units h
theorem behS_good (s : ByteArray) : (behS s).size = placesD s := by rw [behS_len, Num.beh_eq]; rfl

set_option maxRecDepth 100000 in
set_option maxHeartbeats 2000000 in
theorem dRead_ok (s : ByteArray) (w : World) (hG : Ground w) (hs : s.size ≤ 65536) (hg : isDecS s = true) :
    Calls Tryz.prog 74 #[.string s] w fun e w' => e = .returned (.tuple #[.string (cS (unitsD s)), .int .i64 (placesD s : Int), .int .i64 0]) ∧ Below w.heap.size w w' := by
  have HT := Lib.hid (good_text hg)
  have HU := Lib.hid (unitsS_good hg)
  have HP := Lib.hid (behS_good s)
  have hsz := befS_size s
  have hb1 : ¬ 9223372036854775807 < (befS s).size + (behS s).size := by omega
  have hc := units_cap s
  have HC := Lib.hid (show (cS (unitsS s)).size ≤ 4294967295 by have := cS_size hc; omega)
  have HD := Lib.hid (show (Lib.decDigits (unitsS s).natAbs).length ≤ 100001 by have := digits_len hc; omega)
  have HV := Lib.hid (vS_join s)
  have HL := Lib.hid (show (befS s ++ behS s).size ≤ 4294967295 by rw [ByteArray.size_append]; omega)
  have HBS := Lib.hid (show (behS s).size ≤ 65536 by omega)
  obtain ⟨a, ha⟩ : ∃ a, a = befS s := ⟨_, rfl⟩
  obtain ⟨b, hb⟩ : ∃ b, b = behS s := ⟨_, rfl⟩
  rw [← ha, ← hb] at hb1
  rw [← hb] at HT HP HBS
  rw [← ha, ← hb] at HV HL
  have HAB := Lib.hid (And.intro ha hb)
  clear hg hsz hc ha hb
  go_enter Tryz.func74, Tryz.ntmps74
  go_wp2_with fail
  refine (dCut_any s w hG hs).mono ?_
  rintro _ w1 ⟨c, rfl, _, hB, hG1⟩
  rw [← HAB.out.1, ← HAB.out.2]
  go_wp2_with fail
  refine (canonical_v w1 HL.out HV.out rfl).mono ?_
  rintro _ _ ⟨rfl, rfl⟩
  go_wp2_with fail
  refine (dWrite_any (cS (unitsS s)) (unitsS s) b.size w1 HC.out (vS_cS _) HD.out HBS.out).mono ?_
  rintro _ w2 ⟨rfl, hB2⟩
  replace hB := hB.trans (hB2.mono hB.size)
  clear hB2
  rw [show (ByteArray.mk (Num.decT (unitsS s) b.size).toArray) = s from HT.out]
  go_wp2_with fail
  go_ret3
  exact ⟨by rw [← HU.out, ← HP.out]; rfl, hB⟩

/-! ### Text, Scale, Format -/
set_option maxHeartbeats 1000000 in
theorem dText_v {s : ByteArray} {z : Int} {p : Nat} (w : World) (hs : s.size ≤ 100000) (hz : vS s = z) (hp : p ≤ 12) :
    Calls Tryz.prog 61 #[.string s, .int .i64 (p : Int)] w fun e w' => e = .returned (.tuple #[.string (txt z p), .int .i64 0]) ∧ Below w.heap.size w w' := by
  have HN := Lib.hid (okP_true (n := (p : Int)) (by omega) (by omega))
  have HD := Lib.hid (show (Lib.decDigits z.natAbs).length ≤ 100001 from digits_len (Cap.of hs hz))
  go_enter Tryz.func61, Tryz.ntmps61
  go_wp2_with fail
  refine (dPlaces_any p w).mono ?_
  rintro _ _ ⟨rfl, rfl⟩
  rw [HN.out]
  go_wp2_with fail
  refine (dWrite_any s z p w (by omega) hz HD.out (by omega)).mono ?_
  rintro _ w1 ⟨rfl, hB⟩
  go_wp2_with fail
  go_ret2
  exact ⟨rfl, hB⟩

theorem tens_size (p : Nat) : (cS ((10 : Int) ^ p)).size ≤ p + 1 := by
  rw [cS_pow]
  show (49 :: List.replicate p (48 : UInt8)).toArray.size ≤ _
  simp
theorem tens_cap (p : Nat) : Cap (p + 1) ((10 : Int) ^ p) := by
  unfold Cap
  rw [Int.natAbs_pow]
  show 10 ^ p < 10 ^ (p + 1)
  exact Nat.pow_lt_pow_right (by decide) (by omega)
/-- from whatever memory: the function returns this, and nothing that was there has changed -/
def Ret (f : FuncId) (args : Array Value) (v : Value) : Prop := ∀ W, Ground W → Calls Tryz.prog f args W fun r w' => r = .returned v ∧ Below W.heap.size W w'
theorem Ret.call {f : FuncId} {args : Array Value} {v : Value} (h : Ret f args v) (W : World) (hG : Ground W) : Calls Tryz.prog f args W fun r w' => r = .returned v ∧ Below W.heap.size W w' := h W hG
/-- a string and an error -/
abbrev two (u : ByteArray) (c : Int) : Value := .tuple #[.string u, .int .i64 c]

theorem text_ok {s : ByteArray} {z : Int} {p : Nat} (hs : s.size ≤ 100000) (hz : vS s = z) (hp : p ≤ 12) : Ret 61 #[.string s, .int .i64 (p : Int)] (two (txt z p) 0) :=
  fun W _ => dText_v W hs hz hp
end Go.Proofs.YtahnkmkmoalbhaaGreatDoor

/- The program's layer 3: Fraction, Parse: the walks. -/
namespace Go.Proofs.YtahnkmkmoalbhaaGreatDoor
open Go.RowKit Fra

/-- what read answers -/
abbrev three (u : ByteArray) (p c : Int) : Value := .tuple #[.string u, .int .i64 p, .int .i64 c]
theorem read_ok {s : ByteArray} (hs : s.size ≤ 65536) (hg : isDecS s = true) : Ret 74 #[.string s] (three (cS (unitsD s)) (placesD s : Int) 0) := fun W hG => dRead_ok s W hG hs hg
theorem placesD_le (s : ByteArray) : placesD s ≤ s.size := by have h1 := behS_good s; have h2 := befS_size s; omega
theorem unitsD_cap {s : ByteArray} (hg : isDecS s = true) : Cap s.size (unitsD s) := by rw [← unitsS_good hg]; exact units_cap s

/-! ### Parse -/
/-- what Parse reckons with -/
structure ParseAt (s : ByteArray) (p : Nat) (a b q r : Int) : Prop where
  ea : unitsD s * (10 : Int) ^ p = a
  eb : (10 : Int) ^ placesD s = b
  eq : Int.fdiv a b = q
  er : Int.fmod a b = r
  s1 : (cS (unitsD s)).size ≤ 4294967295
  s2 : (cS ((10 : Int) ^ p)).size ≤ 4294967295
  s3 : (cS a).size ≤ 4294967295
  s4 : (cS b).size ≤ 4294967295
  p1 : p ≤ 1000000
  p2 : placesD s ≤ 1000000
  b0 : b ≠ 0
theorem ParseAt.of {s : ByteArray} {p : Nat} (hs : s.size ≤ 65536) (hg : isDecS s = true) (hp : p ≤ 12) :
    ParseAt s p (unitsD s * (10 : Int) ^ p) ((10 : Int) ^ placesD s) (Int.fdiv (unitsD s * (10 : Int) ^ p) ((10 : Int) ^ placesD s)) (Int.fmod (unitsD s * (10 : Int) ^ p) ((10 : Int) ^ placesD s)) := by
  have h1 := placesD_le s
  have h2 := tens_size (placesD s)
  have h3 := tens_size p
  have h4 := unitsD_cap hg
  have h5 := cS_size h4
  have h6 := cS_size (Cap.mul h4 (tens_cap p))
  have h7 := Num.pow10 (placesD s)
  exact ⟨rfl, rfl, rfl, rfl, by omega, by omega, by omega, by omega, by omega, by omega, by omega⟩

set_option maxRecDepth 100000 in
set_option maxHeartbeats 2000000 in
theorem dParse_ok {s : ByteArray} {p : Nat} {m : Int} (hs : s.size ≤ 65536) (hg : isDecS s = true) (hp : p ≤ 12) (hm : unitsD s * (10 : Int) ^ p = m * (10 : Int) ^ placesD s) : Ret 65 #[.string s, .int .i64 (p : Int)] (two (cS m) 0) := by
  intro w hG
  have HN := Lib.hid (okP_true (n := (p : Int)) (by omega) (by omega))
  have HR := Lib.hid (read_ok hs hg)
  have h0 := Num.pow10 (placesD s)
  have hA := ParseAt.of hs hg hp
  rw [show Int.fdiv (unitsD s * (10 : Int) ^ p) ((10 : Int) ^ placesD s) = m by rw [hm]; exact Int.mul_fdiv_cancel _ (by omega)] at hA
  rw [show Int.fmod (unitsD s * (10 : Int) ^ p) ((10 : Int) ^ placesD s) = 0 by rw [hm]; exact Int.mul_fmod_left _ _] at hA
  obtain ⟨a, ha⟩ : ∃ a, unitsD s * (10 : Int) ^ p = a := ⟨_, rfl⟩
  obtain ⟨b, hb⟩ : ∃ b, (10 : Int) ^ placesD s = b := ⟨_, rfl⟩
  rw [ha, hb] at hA
  have HA := Lib.hid hA
  clear hg hm h0 hA ha hb
  go_enter Tryz.func65, Tryz.ntmps65
  go_wp2_with fail
  refine (dPlaces_any p w).mono ?_
  rintro _ _ ⟨rfl, rfl⟩
  rw [HN.out]
  go_wp2_with fail
  refine (HR.out w hG).mono ?_
  rintro _ w1 ⟨rfl, hB⟩
  go_wp2_with fail
  refine (dTen_any p w1 HA.out.p1).mono ?_
  rintro _ w2 ⟨rfl, hB1⟩
  replace hB := hB.trans (hB1.mono hB.size)
  clear hB1
  go_wp2_with fail
  refine (mul_v w2 (hG.below hB) HA.out.s1 HA.out.s2 (vS_cS _) (vS_cS _) HA.out.ea).mono ?_
  rintro _ w3 ⟨rfl, hB1⟩
  replace hB := hB.trans (hB1.mono hB.size)
  clear hB1
  go_wp2_with fail
  refine (dTen_any (placesD s) w3 HA.out.p2).mono ?_
  rintro _ w4 ⟨rfl, hB1⟩
  replace hB := hB.trans (hB1.mono hB.size)
  clear hB1
  rw [HA.out.eb]
  go_wp2_with fail
  refine (div_v w4 (hG.below hB) HA.out.s3 HA.out.s4 (vS_cS _) (vS_cS _) HA.out.b0 HA.out.eq HA.out.er).mono ?_
  rintro _ w5 ⟨rfl, hB1⟩
  replace hB := hB.trans (hB1.mono hB.size)
  clear hB1
  rw [cS_zero]
  go_wp2_with fail
  go_ret2
  exact ⟨rfl, hB⟩

set_option maxRecDepth 100000 in
set_option maxHeartbeats 2000000 in
theorem dParse_inexact {s : ByteArray} {p : Nat} (hs : s.size ≤ 65536) (hg : isDecS s = true) (hp : p ≤ 12) (hm : Int.fmod (unitsD s * (10 : Int) ^ p) ((10 : Int) ^ placesD s) ≠ 0) : Ret 65 #[.string s, .int .i64 (p : Int)] (two ⟨#[]⟩ 22) := by
  intro w hG
  have HN := Lib.hid (okP_true (n := (p : Int)) (by omega) (by omega))
  have HR := Lib.hid (read_ok hs hg)
  have hA := ParseAt.of hs hg hp
  obtain ⟨a, ha⟩ : ∃ a, unitsD s * (10 : Int) ^ p = a := ⟨_, rfl⟩
  obtain ⟨b, hb⟩ : ∃ b, (10 : Int) ^ placesD s = b := ⟨_, rfl⟩
  rw [ha, hb] at hA hm
  obtain ⟨r, hr⟩ : ∃ r, Int.fmod a b = r := ⟨_, rfl⟩
  rw [hr] at hA hm
  have hne : ((cS r).toList.isEmpty) = false := by rw [eq_nil]; exact decide_eq_false hm
  obtain ⟨sr, hsr⟩ : ∃ sr, sr = cS r := ⟨_, rfl⟩
  have HSR := Lib.hid hsr
  rw [← hsr] at hne
  have HA := Lib.hid hA
  clear hg hm hA ha hb hr hsr
  go_enter Tryz.func65, Tryz.ntmps65
  go_wp2_with fail
  refine (dPlaces_any p w).mono ?_
  rintro _ _ ⟨rfl, rfl⟩
  rw [HN.out]
  go_wp2_with fail
  refine (HR.out w hG).mono ?_
  rintro _ w1 ⟨rfl, hB⟩
  go_wp2_with fail
  refine (dTen_any p w1 HA.out.p1).mono ?_
  rintro _ w2 ⟨rfl, hB1⟩
  replace hB := hB.trans (hB1.mono hB.size)
  clear hB1
  go_wp2_with fail
  refine (mul_v w2 (hG.below hB) HA.out.s1 HA.out.s2 (vS_cS _) (vS_cS _) HA.out.ea).mono ?_
  rintro _ w3 ⟨rfl, hB1⟩
  replace hB := hB.trans (hB1.mono hB.size)
  clear hB1
  go_wp2_with fail
  refine (dTen_any (placesD s) w3 HA.out.p2).mono ?_
  rintro _ w4 ⟨rfl, hB1⟩
  replace hB := hB.trans (hB1.mono hB.size)
  clear hB1
  rw [HA.out.eb]
  go_wp2_with fail
  refine (div_v w4 (hG.below hB) HA.out.s3 HA.out.s4 (vS_cS _) (vS_cS _) HA.out.b0 HA.out.eq HA.out.er).mono ?_
  rintro _ w5 ⟨rfl, hB1⟩
  replace hB := hB.trans (hB1.mono hB.size)
  clear hB1
  rw [← HSR.out]
  go_wp2_with fail
  go_ret2
  exact ⟨rfl, hB⟩

end Go.Proofs.YtahnkmkmoalbhaaGreatDoor

/- The program's layer 3: remove, Finite: the walks. -/
namespace Go.Proofs.YtahnkmkmoalbhaaGreatDoor
open Go.RowKit Fra

/-- two numbers, of k digits and of twice as many -/
structure RemAt (k f d : Nat) : Prop where
  f2 : 2 ≤ f
  d0 : 0 < d
  cf : f < 10 ^ (k + k)
  cd : d < 10 ^ k
  k1 : k ≤ 200000
theorem RemAt.s1 {k f d : Nat} (h : RemAt k f d) : (cS (f : Int)).size ≤ 4294967295 := by
  have h1 := h.cf; have h2 := h.k1
  have := cS_size (z := (f : Int)) (k := k + k) (by omega)
  omega
theorem RemAt.s2 {k f d : Nat} (h : RemAt k f d) : (cS (d : Int)).size ≤ 4294967295 := by
  have h1 := h.cd; have h2 := h.k1
  have := cS_size (z := (d : Int)) (k := k) (by omega)
  omega
theorem RemAt.next {k f d : Nat} (h : RemAt k f d) (h0 : d % f = 0) : RemAt k (f * f) (d / f) := by
  have h2 := h.f2
  have hfd : f ≤ d := Nat.le_of_dvd h.d0 (Nat.dvd_of_mod_eq_zero h0)
  have hf : f < 10 ^ k := Nat.lt_of_le_of_lt hfd h.cd
  refine ⟨?_, Nat.div_pos hfd (by omega), ?_, Nat.lt_of_le_of_lt (Nat.div_le_self _ _) h.cd, h.k1⟩
  · have := Nat.mul_le_mul h2 h2; omega
  · rw [Nat.pow_add]; exact Nat.mul_lt_mul'' hf hf
theorem RemAt.rest {k f d : Nat} (h : RemAt k f d) : RemAt k f (Num.tm (f * f) d).2 :=
  ⟨h.f2, Num.tm_pos h.d0, h.cf, Nat.lt_of_le_of_lt (Num.tm_le (by have := Nat.mul_le_mul h.f2 h.f2; omega)) h.cd, h.k1⟩
theorem RemAt.few {k f d : Nat} (h : RemAt k f d) : (Num.tm f d).1 < 4 * 200000 := by
  have := Num.tm_few h.f2 h.d0 h.cd
  have := h.k1
  omega

theorem RemAt.of {k f D : Nat} (h : Cap k (D : Int)) (h0 : 0 < D) (hf : 2 ≤ f) (hf9 : f ≤ 9) (h1 : 1 ≤ k) (hk : k ≤ 200000) : RemAt k f D := by
  refine ⟨hf, h0, ?_, by unfold Cap at h; omega, hk⟩
  have h2 : 10 ^ 1 ≤ 10 ^ (k + k) := Nat.pow_le_pow_right (by decide) (by omega)
  omega
/-! ### Finite -/
end Go.Proofs.YtahnkmkmoalbhaaGreatDoor

/- What the laws of layer 3 hold the program's answers against, by values. -/
namespace Go.Proofs.YtahnkmkmoalbhaaGreatDoor
open Go.RowKit Fra

theorem txt_list (z : Int) (p : Nat) : (txt z p).data.toList = Num.decT z p := rfl
theorem txt_size {z : Int} {k : Nat} (p : Nat) (h : Cap k z) : (txt z p).size ≤ k + p + 3 := by
  rw [← size_toList, txt_list, Num.decT_list]
  have h1 : (Lib.decDigits (z.natAbs / 10 ^ p)).length ≤ k + 1 := by
    have := digits_len (z := ((z.natAbs / 10 ^ p : Nat) : Int)) (k := k) (by unfold Cap at *; rw [Int.natAbs_natCast]; exact Nat.lt_of_le_of_lt (Nat.div_le_self z.natAbs (10 ^ p)) h)
    rwa [Int.natAbs_natCast] at this
  have h2 := Num.fixd_length p z.natAbs
  rw [List.length_append, List.length_append]
  have h3 : ((if z < 0 then [45] else []) : List UInt8).length ≤ 1 := by split <;> simp
  have h4 : ((if p = 0 then [] else 46 :: Num.fixd p z.natAbs) : List UInt8).length ≤ p + 1 := by
    split
    · simp
    · rw [List.length_cons, h2]; omega
  omega
end Go.Proofs.YtahnkmkmoalbhaaGreatDoor

/- The reference implementation of layer 3: mode, places, power, even, digits, divided: the walks. -/
namespace Go.Proofs.YtahnkmkmoalbhaaGreatDoor
open Go.RowKit Fra

/-! ### even -/
/-! ### digits -/
def digsB (l : List UInt8) : Bool := l.all Num.isDig && !l.isEmpty
/-! ### divided -/
end Go.Proofs.YtahnkmkmoalbhaaGreatDoor

/- The reference of layer 3: Fraction, Parse. -/
namespace Go.Proofs.YtahnkmkmoalbhaaGreatDoor.Num
open Go.Lib (decDigits)

theorem isDec_parts {l r : Bs} {ng : Bool} (h : cut l = (ng, r)) : isDec l = (goodW (r.takeWhile (· != 46)) && ((r.dropWhile (· != 46)).isEmpty || (!(r.dropWhile (· != 46)).tail.isEmpty && (r.dropWhile (· != 46)).tail.all isDig)) && (!ng || decide (num (r.takeWhile (· != 46) ++ (r.dropWhile (· != 46)).tail) ≠ 0))) := by
  unfold isDec decM dotF dotT dotW
  rw [h]
theorem decU_parts {l r : Bs} {ng : Bool} (h : cut l = (ng, r)) : decU l = if ng then -(num (r.takeWhile (· != 46) ++ (r.dropWhile (· != 46)).tail) : Int) else num (r.takeWhile (· != 46) ++ (r.dropWhile (· != 46)).tail) := by
  unfold decU decM dotF dotT dotW
  rw [h]
theorem decP_parts {l r : Bs} {ng : Bool} (h : cut l = (ng, r)) : decP l = ((r.dropWhile (· != 46)).tail).length := by
  unfold decP dotF dotT
  rw [h]
theorem no_dot_drop {r : Bs} (h : dot r = r.length) : r.takeWhile (· != 46) = r ∧ r.dropWhile (· != 46) = [] := by
  have h1 := List.takeWhile_append_dropWhile (p := (· != 46)) (l := r)
  have h2 : (r.dropWhile (· != 46)).length = 0 := by
    have := congrArg List.length h1
    rw [List.length_append] at this
    unfold dot at h
    omega
  have h3 := List.eq_nil_of_length_eq_zero h2
  rw [h3, List.append_nil] at h1
  exact ⟨h1, h3⟩
end Go.Proofs.YtahnkmkmoalbhaaGreatDoor.Num
namespace Go.Proofs.YtahnkmkmoalbhaaGreatDoor
open Go.RowKit Fra

/-- a text by its parts: whether it has a sign, whether a point; ahead of the point; behind it -/
structure PartsAt (s : ByteArray) (ng dt : Bool) (W F : ByteArray) : Prop where
  isd : isDecS s = (Num.goodW W.data.toList && (!dt || digsB F.data.toList) && (!ng || decide (Num.num (W.data.toList ++ F.data.toList) ≠ 0)))
  un : unitsD s = if ng then -(Num.num (W.data.toList ++ F.data.toList) : Int) else Num.num (W.data.toList ++ F.data.toList)
  pl : placesD s = F.size
  nf : dt = false → F = ⟨#[]⟩
theorem PartsAt.none {s R : ByteArray} {ng : Bool} (h : Num.cut s.data.toList = (ng, R.data.toList)) (hd : Num.dot R.data.toList = R.size) : PartsAt s ng false R ⟨#[]⟩ := by
  obtain ⟨h1, h2⟩ := Num.no_dot_drop (r := R.data.toList) (by rw [hd, size_toList])
  refine ⟨?_, ?_, ?_, fun _ => rfl⟩
  · unfold isDecS; rw [Num.isDec_parts h, h1, h2]; simp
  · unfold unitsD; rw [Num.decU_parts h, h1, h2]; rfl
  · unfold placesD; rw [Num.decP_parts h, h2]; rfl
end Go.Proofs.YtahnkmkmoalbhaaGreatDoor

/- Plain mathematics of layer 4: the best one again and again, units moved, parts with a sign, beginnings. -/
namespace Go.Proofs.YtahnkmkmoalbhaaGreatDoor.Num

/-! ### With a sign -/
def sumZ (f : Nat → Int) : Nat → Int
  | 0 => 0
  | n + 1 => sumZ f n + f n
/-! ### Each beginning has its part -/
end Go.Proofs.YtahnkmkmoalbhaaGreatDoor.Num

/- Layer 4: rows of strings and of fractions in memory: read, made whole, appended to. -/
namespace Go.Proofs.YtahnkmkmoalbhaaGreatDoor
open Go.RowKit

/-! ### Cells that are read -/
/-- the m cells c lie behind the address xa; nothing is known of the address of none -/
structure Rc (w : World) (xa : Option Addr) (m : Nat) (c : Nat → Value) : Prop where
  sl : 0 < m → ∃ b o, xa = some ⟨b, o, none⟩ ∧ b < w.heap.size ∧ ∀ i, i < m → w.cell? ⟨b, o + i, none⟩ = some (c i)
theorem Rc.nil (w : World) (xa : Option Addr) (c : Nat → Value) : Rc w xa 0 c := ⟨fun h => absurd h (by omega)⟩
theorem Rc.below {w w' : World} {xa : Option Addr} {m : Nat} {c : Nat → Value} (h : Rc w xa m c) (hb : Below w.heap.size w w') : Rc w' xa m c :=
  ⟨fun h0 => by obtain ⟨b, o, e, hl, hc⟩ := h.sl h0; exact ⟨b, o, e, Nat.lt_of_lt_of_le hl hb.size, fun i hi => (hb.cell (p := ⟨b, o + i, none⟩) hl).trans (hc i hi)⟩⟩
theorem Rc.belowAt {B : Nat} {w w' : World} {xa : Option Addr} {m : Nat} {c : Nat → Value} (h : Rc w xa m c) (hb : Below B w w') (hB : w.heap.size ≤ B) : Rc w' xa m c := h.below (hb.mono hB)
theorem Rc.drewN {w : World} {xa : Option Addr} {m : Nat} {c : Nat → Value} (h : Rc w xa m c) (n : Nat) : Rc (w.drewN n) xa m c := ⟨h.sl⟩
theorem Rc.alloc {w : World} {xa : Option Addr} {m : Nat} {c : Nat → Value} (h : Rc w xa m c) (o : Obj) : Rc (w.alloc o) xa m c := h.below ((Below.refl _ w).alloc (Nat.le_refl _) o)
theorem Rc.prefix {w : World} {xa : Option Addr} {m k : Nat} {c : Nat → Value} (h : Rc w xa m c) (hk : k ≤ m) : Rc w xa k c :=
  ⟨fun h0 => by obtain ⟨b, o, e, hl, hc⟩ := h.sl (by omega); exact ⟨b, o, e, hl, fun i hi => hc i (by omega)⟩⟩
theorem Rc.congr {w : World} {xa : Option Addr} {m : Nat} {c d : Nat → Value} (h : Rc w xa m c) (e : ∀ i, i < m → d i = c i) : Rc w xa m d :=
  ⟨fun h0 => by obtain ⟨b, o, ea, hl, hc⟩ := h.sl h0; exact ⟨b, o, ea, hl, fun i hi => by rw [hc i hi, e i hi]⟩⟩
theorem Rc.setOther {w : World} {xa : Option Addr} {m : Nat} {c : Nat → Value} (h : Rc w xa m c) {a : Addr} (hne : ∀ b o, xa = some ⟨b, o, none⟩ → b ≠ a.block) (v : Value) : Rc (w.setCell a v) xa m c :=
  ⟨fun h0 => by
    obtain ⟨b, o, e, hl, hc⟩ := h.sl h0
    exact ⟨b, o, e, by simpa [World.setCell] using hl, fun i hi => (World.cell?_of_block (w := w) (a := ⟨b, o + i, none⟩) (Below.heap_setCell w a v b (hne b o e))).trans (hc i hi)⟩⟩
theorem Rc.grown {w w' : World} {xa : Option Addr} {m : Nat} {c : Nat → Value} {row : Option Nat} (h : Rc w xa m c) (hg : w.grownBy w' row) (hne : ∀ b o, xa = some ⟨b, o, none⟩ → some b ≠ row) : Rc w' xa m c :=
  ⟨fun h0 => by obtain ⟨b, o, e, hl, hc⟩ := h.sl h0; exact ⟨b, o, e, Nat.lt_of_lt_of_le hl hg.size, fun i hi => hg.cell (hc i hi) (hne b o e)⟩⟩

/-- a slice of n strings -/
abbrev Rs (w : World) (xa : Option Addr) (n : Nat) (s : Nat → ByteArray) : Prop := Rc w xa n fun i => .string (s i)
/-- a slice of n pairs of strings -/
abbrev Rf (w : World) (xa : Option Addr) (n : Nat) (u v : Nat → ByteArray) : Prop := Rc w xa (n * 2) fun i => .string (if i % 2 = 0 then u (i / 2) else v (i / 2))
theorem Rs.congr {w : World} {xa : Option Addr} {n : Nat} {s t : Nat → ByteArray} (h : Rs w xa n s) (e : ∀ i, i < n → t i = s i) : Rs w xa n t := Rc.congr h fun i hi => by show Value.string _ = Value.string _; rw [e i hi]
theorem Rs.at {w : World} {xa : Option Addr} {n : Nat} {s : Nat → ByteArray} (h : Rs w xa n s) {i : Nat} (hi : i < n) : ∃ b o, xa = some ⟨b, o, none⟩ ∧ b < w.heap.size ∧ w.cell? ⟨b, o + i, none⟩ = some (.string (s i)) := by
  obtain ⟨b, o, e, hl, hc⟩ := h.sl (by omega); exact ⟨b, o, e, hl, hc i hi⟩
theorem Rf.at {w : World} {xa : Option Addr} {n : Nat} {u v : Nat → ByteArray} (h : Rf w xa n u v) {i : Nat} (hi : i < n) :
    ∃ b o, xa = some ⟨b, o, none⟩ ∧ b < w.heap.size ∧ w.cell? ⟨b, o + i * 2, none⟩ = some (.string (u i)) ∧ w.cell? ⟨b, o + i * 2 + 1, none⟩ = some (.string (v i)) := by
  obtain ⟨b, o, e, hl, hc⟩ := h.sl (by omega)
  have h1 := hc (i * 2) (by omega)
  have h2 := hc (i * 2 + 1) (by omega)
  rw [if_pos (by omega), show i * 2 / 2 = i by omega] at h1
  rw [if_neg (by omega), show (i * 2 + 1) / 2 = i by omega, ← Nat.add_assoc] at h2
  exact ⟨b, o, e, hl, h1, h2⟩

/-! ### Rows that a call made whole -/
/-- f, at i x -/
def upd {α : Type} (f : Nat → α) (i : Nat) (x : α) : Nat → α := fun j => if j = i then x else f j
/-- block b holds n cells c of type t -/
def RowC (w : World) (b : Nat) (t : TypeId) (n : Nat) (c : Nat → Value) : Prop := w.heap[b]? = some (.cells ((List.range n).map c).toArray t (0, 0))
theorem RowC.lt {w : World} {b : Nat} {t : TypeId} {n : Nat} {c : Nat → Value} (h : RowC w b t n c) : b < w.heap.size := (Array.getElem?_eq_some_iff.1 h).1
theorem RowC.cell {w : World} {b : Nat} {t : TypeId} {n : Nat} {c : Nat → Value} (h : RowC w b t n c) {i : Nat} (hi : i < n) : w.cell? ⟨b, i, none⟩ = some (c i) := by
  rw [cell_of_row w b i _ _ _ h]
  simp [hi]
theorem RowC.frozen {w : World} {b : Nat} {t : TypeId} {n : Nat} {c : Nat → Value} (h : RowC w b t n c) (i : Nat) : w.frozen? ⟨b, i, none⟩ = false := frozen_of_row w b i _ _ h
theorem RowC.of_block {w w' : World} {b : Nat} {t : TypeId} {n : Nat} {c : Nat → Value} (h : RowC w b t n c) (e : w'.heap[b]? = w.heap[b]?) : RowC w' b t n c := by
  unfold RowC at *; rw [e]; exact h
theorem RowC.below {B : Nat} {w w' : World} {b : Nat} {t : TypeId} {n : Nat} {c : Nat → Value} (h : RowC w b t n c) (hb : Below B w w') (hlt : b < B) : RowC w' b t n c := h.of_block (hb.block b hlt)
theorem RowC.set {w : World} {b : Nat} {t : TypeId} {n : Nat} {c : Nat → Value} (h : RowC w b t n c) (i : Nat) (v : Value) : RowC (w.setCell ⟨b, i, none⟩ v) b t n (upd c i v) := by
  have := heap_setCell_same w b i _ _ v h
  unfold RowC
  rw [this, List.setIfInBounds_toArray]
  congr 3
  apply List.ext_getElem
  · simp
  · intro k h1 h2
    simp only [List.getElem_set, List.getElem_map, List.getElem_range, upd]
    by_cases e : i = k
    · subst e; simp
    · rw [if_neg e, if_neg (fun q => e q.symm)]
theorem RowC.setOther {w : World} {b : Nat} {t : TypeId} {n : Nat} {c : Nat → Value} (h : RowC w b t n c) {a : Addr} (hne : b ≠ a.block) (v : Value) : RowC (w.setCell a v) b t n c := h.of_block (Below.heap_setCell w a v b hne)
theorem RowC.alloc {w : World} {b : Nat} {t : TypeId} {n : Nat} {c : Nat → Value} (h : RowC w b t n c) (o : Obj) : RowC (w.alloc o) b t n c := h.of_block (Below.heap_alloc w o b h.lt)
theorem RowC.drewN {w : World} {b : Nat} {t : TypeId} {n : Nat} {c : Nat → Value} (h : RowC w b t n c) (k : Nat) : RowC (w.drewN k) b t n c := h
theorem RowC.congr {w : World} {b : Nat} {t : TypeId} {n : Nat} {c d : Nat → Value} (h : RowC w b t n c) (e : ∀ i, i < n → d i = c i) : RowC w b t n d := by
  unfold RowC at *
  rw [h, List.map_congr_left (fun i hi => (e i (List.mem_range.1 hi)).symm)]
theorem RowC.rc {w : World} {b : Nat} {t : TypeId} {n : Nat} {c : Nat → Value} (h : RowC w b t n c) : Rc w (some ⟨b, 0, none⟩) n c :=
  ⟨fun _ => ⟨b, 0, rfl, h.lt, fun i hi => by rw [Nat.zero_add]; exact h.cell hi⟩⟩
theorem RowC.made (w : World) (t : TypeId) (z : Value) (n : Nat) : RowC (w.alloc (.cells (madeCells #[z] n) t)) w.heap.size t n fun _ => z := by
  unfold RowC
  rw [heap_alloc_new]
  have : madeCells #[z] n = ((List.range n).map fun _ => z).toArray := by
    apply Array.toList_inj.1; rw [toList_madeCells_one]; simp [List.map_const']
  rw [this]

/-! ### Rows that grow by append -/
/-- the slice value v owns k cells c of a type of size cells each -/
def OwnC (w : World) (base : Nat) (t : TypeId) (size : Nat) (v : Value) (n : Nat) (c : Nat → Value) : Prop := w.ownsRow base t size v n ((List.range (n * size)).map c)
theorem OwnC.nil (w : World) (base : Nat) (t : TypeId) (size : Nat) (c : Nat → Value) : OwnC w base t size (.slice none 0 0) 0 c := by
  unfold OwnC; rw [Nat.zero_mul]; exact World.ownsRow_nil w base t size
theorem OwnC.kept {w w' : World} {base : Nat} {t : TypeId} {size : Nat} {v : Value} {n : Nat} {c : Nat → Value} (h : OwnC w base t size v n c) (hb : Below w.heap.size w w') : OwnC w' base t size v n c := by
  refine World.ownsRow.kept h (grown_of_below hb none) ?_
  cases hv : v.ownBlock with
  | none => exact .inl rfl
  | some b => exact .inr (by simp)
theorem OwnC.alloc {w : World} {base : Nat} {t : TypeId} {size : Nat} {v : Value} {n : Nat} {c : Nat → Value} (h : OwnC w base t size v n c) (o : Obj) : OwnC (w.alloc o) base t size v n c := World.ownsRow.alloc h o
theorem OwnC.congr {w : World} {base : Nat} {t : TypeId} {size : Nat} {v : Value} {n : Nat} {c d : Nat → Value} (h : OwnC w base t size v n c) (e : ∀ i, i < n * size → d i = c i) : OwnC w base t size v n d := by
  unfold OwnC at *
  rw [List.map_congr_left (fun i hi => e i (List.mem_range.1 hi))]; exact h
theorem OwnC.rc {w : World} {base : Nat} {t : TypeId} {size : Nat} {v : Value} {n : Nat} {c : Nat → Value} (h : OwnC w base t size v n c) : ∃ xa cap, v = .slice xa n cap ∧ Rc w xa (n * size) c ∧ n ≤ cap ∧ cap ≤ maxLen ∧ (∀ b o, xa = some ⟨b, o, none⟩ → base ≤ b) ∧ (xa = none → cap = 0) := by
  rcases h.2 with ⟨rfl, h0⟩ | ⟨g, cap, cur, rfl, hb, hg, hnc, hcm, hcs, ht⟩
  · subst h0
    exact ⟨none, 0, rfl, ⟨fun hp => by omega⟩, Nat.le_refl _, by unfold maxLen; omega, fun b o e => (by cases e), fun _ => rfl⟩
  · refine ⟨some ⟨g, 0, none⟩, cap, rfl, ⟨fun _ => ⟨g, 0, rfl, (Array.getElem?_eq_some_iff.1 hg).1, fun i hi => ?_⟩⟩, hnc, hcm, fun b o e => (by cases e; exact hb), fun e => (by cases e)⟩
    have := World.ownsRow.cells h (g := g) rfl i (c i) (by simp [hi])
    rw [Nat.zero_add, ← this, addr_add]

end Go.Proofs.YtahnkmkmoalbhaaGreatDoor

/- Plain mathematics of layer 5: the order of strings; bags of amounts. -/
namespace Go.Proofs.YtahnkmkmoalbhaaGreatDoor

/-! ### The order of strings -/
theorem bytesLess_irr : ∀ x : List UInt8, Op.bytesLess x x = false
  | [] => rfl
  | a :: x => by
    unfold Op.bytesLess
    rw [bytesLess_irr x]
    simp
theorem bytesLess_trans : ∀ x y z : List UInt8, Op.bytesLess x y = true → Op.bytesLess y z = true → Op.bytesLess x z = true
  | _, [], _, h, _ => by simp [Op.bytesLess] at h
  | _, _ :: _, [], _, h => by simp [Op.bytesLess] at h
  | [], _ :: _, _ :: _, _, _ => rfl
  | a :: x, b :: y, c :: z, h, g => by
    have ih := bytesLess_trans x y z
    unfold Op.bytesLess at h g ⊢
    simp only [Bool.or_eq_true, Bool.and_eq_true, decide_eq_true_eq, beq_iff_eq] at h g ⊢
    rcases h with h | ⟨rfl, h⟩
    · rcases g with g | ⟨rfl, g⟩
      · exact Or.inl (UInt8.lt_trans h g)
      · exact Or.inl h
    · rcases g with g | ⟨rfl, g⟩
      · exact Or.inl g
      · exact Or.inr ⟨rfl, ih h g⟩
theorem bytesLess_tri : ∀ x y : List UInt8, Op.bytesLess x y = false → Op.bytesLess y x = false → x = y
  | [], [], _, _ => rfl
  | [], _ :: _, h, _ => by simp [Op.bytesLess] at h
  | _ :: _, [], _, h => by simp [Op.bytesLess] at h
  | a :: x, b :: y, h, g => by
    have ih := bytesLess_tri x y
    unfold Op.bytesLess at h g
    simp only [Bool.or_eq_false_iff, Bool.and_eq_false_iff, decide_eq_false_iff_not, beq_eq_false_iff_ne] at h g
    have hab : a = b := UInt8.le_antisymm (UInt8.not_lt.1 g.1) (UInt8.not_lt.1 h.1)
    subst hab
    rw [ih (h.2.resolve_left fun e => e rfl) (g.2.resolve_left fun e => e rfl)]

/-- a stands before b -/
def bl (a b : ByteArray) : Bool := Op.bytesLess a.toList b.toList
theorem toList_inj {a b : ByteArray} (h : a.toList = b.toList) : a = b := by
  rw [Lib.toList_data, Lib.toList_data] at h
  exact ByteArray.ext (Array.toList_inj.1 h)
theorem bl_irr (a : ByteArray) : bl a a = false := bytesLess_irr _
theorem bl_trans {a b c : ByteArray} (h : bl a b = true) (g : bl b c = true) : bl a c = true := bytesLess_trans _ _ _ h g
theorem bl_tri {a b : ByteArray} (h : bl a b = false) (g : bl b a = false) : a = b := toList_inj (bytesLess_tri _ _ h g)
theorem bl_ne {a b : ByteArray} (h : bl a b = true) : a ≠ b := fun e => by rw [e, bl_irr] at h; exact absurd h (by decide)
theorem bl_asym {a b : ByteArray} (h : bl a b = true) : bl b a = false := by
  cases g : bl b a with
  | false => rfl
  | true => have := bl_trans h g; rw [bl_irr] at this; exact absurd this (by decide)

/-! ### Bags -/
abbrev Bag := List (ByteArray × Int)
def Asc (b : Bag) : Prop := b.Pairwise fun p q => bl p.1 q.1 = true
def NZ (b : Bag) : Prop := ∀ p, p ∈ b → p.2 ≠ 0
/-- the amount of the first pair with this code -/
def amt : Bag → ByteArray → Int
  | [], _ => 0
  | p :: r, c => if p.1 = c then p.2 else amt r c
theorem amt_before {b : Bag} {c : ByteArray} (h : ∀ p, p ∈ b → p.1 ≠ c) : amt b c = 0 := by
  induction b with
  | nil => rfl
  | cons p r ih =>
    unfold amt
    rw [if_neg (h p (by simp))]
    exact ih fun q hq => h q (by simp [hq])
theorem Asc.tail {p : ByteArray × Int} {r : Bag} (h : Asc (p :: r)) : Asc r := (List.pairwise_cons.1 h).2
theorem Asc.head {p : ByteArray × Int} {r : Bag} (h : Asc (p :: r)) : ∀ q, q ∈ r → bl p.1 q.1 = true := (List.pairwise_cons.1 h).1
theorem amt_low {p : ByteArray × Int} {r : Bag} {c : ByteArray} (h : Asc (p :: r)) (hc : bl p.1 c = false) : amt r c = 0 :=
  amt_before fun q hq e => by
    have h1 := h.head q hq
    rw [e, hc] at h1
    exact absurd h1 (by decide)
theorem amt_same {p : ByteArray × Int} {r : Bag} (h : Asc (p :: r)) : amt r p.1 = 0 := amt_before fun q hq e => bl_ne (h.head q hq) e.symm
theorem NZ.tail {p : ByteArray × Int} {r : Bag} (h : NZ (p :: r)) : NZ r := fun q hq => h q (by simp [hq])
/-- bags with the same amounts are the same -/
theorem bag_uniq : ∀ {a b : Bag}, Asc a → NZ a → Asc b → NZ b → (∀ c, amt a c = amt b c) → a = b
  | [], [], _, _, _, _, _ => rfl
  | [], q :: s, _, _, _, hn, h => by
    have := h q.1
    unfold amt at this
    rw [if_pos rfl] at this
    exact absurd this.symm (hn q (by simp))
  | p :: r, [], _, hn, _, _, h => by
    have := h p.1
    unfold amt at this
    rw [if_pos rfl] at this
    exact absurd this (hn p (by simp))
  | p :: r, q :: s, ha, na, hb, nb, h => by
    have e : p.1 = q.1 := by
      cases h1 : bl p.1 q.1 with
      | true =>
        have h2 := h p.1
        have h3 : amt (q :: s) p.1 = 0 := amt_before fun x hx e => by
          rcases List.mem_cons.1 hx with rfl | hx
          · exact bl_ne h1 e.symm
          · have := bl_trans h1 (hb.head x hx)
            rw [e, bl_irr] at this
            exact absurd this (by decide)
        rw [h3] at h2
        unfold amt at h2
        rw [if_pos rfl] at h2
        exact absurd h2 (na p (by simp))
      | false =>
        cases h2 : bl q.1 p.1 with
        | false => exact bl_tri h1 h2
        | true =>
          have h4 := h q.1
          have h3 : amt (p :: r) q.1 = 0 := amt_before fun x hx e => by
            rcases List.mem_cons.1 hx with rfl | hx
            · exact bl_ne h2 e.symm
            · have := bl_trans h2 (ha.head x hx)
              rw [e, bl_irr] at this
              exact absurd this (by decide)
          rw [h3] at h4
          unfold amt at h4
          rw [if_pos rfl] at h4
          exact absurd h4.symm (nb q (by simp))
    have e2 : p.2 = q.2 := by
      have := h p.1
      unfold amt at this
      rwa [if_pos rfl, if_pos e.symm] at this
    have hr : r = s := bag_uniq ha.tail na.tail hb.tail nb.tail fun c => by
      by_cases hc : p.1 = c
      · subst hc
        rw [amt_same ha, e, amt_same hb]
      · have := h c
        unfold amt at this
        rwa [if_neg hc, if_neg (by rw [← e]; exact hc)] at this
    rw [hr, Prod.ext e e2]

/-- an amount is put into a bag -/
def put : Bag → ByteArray → Int → Bag
  | [], c, x => if x = 0 then [] else [(c, x)]
  | p :: r, c, x => if x = 0 then p :: r else if bl p.1 c = true then p :: put r c x else if p.1 = c then (if p.2 + x = 0 then r else (c, p.2 + x) :: r) else (c, x) :: p :: r
theorem put_zero (b : Bag) (c : ByteArray) : put b c 0 = b := by
  cases b with
  | nil => rfl
  | cons p r => unfold put; rw [if_pos rfl]
theorem put_codes {b : Bag} {c : ByteArray} {x : Int} : ∀ q, q ∈ put b c x → q.1 = c ∨ ∃ p, p ∈ b ∧ p.1 = q.1 := by
  induction b with
  | nil =>
    intro q hq
    unfold put at hq
    split at hq
    · simp at hq
    · simp at hq; exact Or.inl (by rw [hq])
  | cons p r ih =>
    intro q hq
    unfold put at hq
    split at hq
    · exact Or.inr ⟨q, hq, rfl⟩
    · split at hq
      · rcases List.mem_cons.1 hq with rfl | hq
        · exact Or.inr ⟨q, by simp, rfl⟩
        · rcases ih q hq with h | ⟨y, hy, e⟩
          · exact Or.inl h
          · exact Or.inr ⟨y, by simp [hy], e⟩
      · split at hq
        · split at hq
          · exact Or.inr ⟨q, by simp [hq], rfl⟩
          · rcases List.mem_cons.1 hq with rfl | hq
            · exact Or.inl rfl
            · exact Or.inr ⟨q, by simp [hq], rfl⟩
        · rcases List.mem_cons.1 hq with rfl | hq
          · exact Or.inl rfl
          · exact Or.inr ⟨q, hq, rfl⟩
theorem put_amt {b : Bag} (h : Asc b) (c : ByteArray) (x : Int) (d : ByteArray) : amt (put b c x) d = amt b d + if c = d then x else 0 := by
  induction b with
  | nil =>
    unfold put
    by_cases hx : x = 0
    · rw [if_pos hx, hx]; simp
    · rw [if_neg hx]
      unfold amt
      by_cases hc : c = d
      · rw [if_pos hc, if_pos hc]; simp
      · rw [if_neg hc, if_neg hc]; rfl
  | cons p r ih =>
    unfold put
    by_cases hx : x = 0
    · rw [if_pos hx, hx]; simp
    rw [if_neg hx]
    by_cases h1 : bl p.1 c = true
    · rw [if_pos h1]
      unfold amt
      by_cases hd : p.1 = d
      · rw [if_pos hd, if_pos hd, if_neg (by rw [← hd]; exact fun e => bl_ne h1 e.symm), Int.add_zero]
      · rw [if_neg hd, if_neg hd, ih h.tail]
    · rw [if_neg h1]
      by_cases h2 : p.1 = c
      · rw [if_pos h2]
        by_cases hz : p.2 + x = 0
        · rw [if_pos hz]
          by_cases hd : c = d
          · subst hd
            rw [if_pos rfl, ← h2, amt_same h]
            unfold amt
            rw [if_pos rfl]
            omega
          · rw [if_neg hd, Int.add_zero]
            rw [amt.eq_2, if_neg (by rw [h2]; exact hd)]
        · rw [if_neg hz, amt.eq_2, amt.eq_2]
          by_cases hd : c = d
          · rw [if_pos hd, if_pos hd, if_pos (by rw [h2]; exact hd)]
          · rw [if_neg hd, if_neg hd, if_neg (by rw [h2]; exact hd), Int.add_zero]
      · rw [if_neg h2, amt.eq_2]
        by_cases hd : c = d
        · subst hd
          rw [if_pos rfl, if_pos rfl, amt.eq_2, if_neg h2, amt_low h (by simpa using h1), Int.zero_add]
        · rw [if_neg hd, if_neg hd, Int.add_zero]
theorem put_asc {b : Bag} (h : Asc b) (c : ByteArray) (x : Int) : Asc (put b c x) := by
  induction b with
  | nil =>
    unfold put
    split
    · exact h
    · exact List.pairwise_singleton _ _
  | cons p r ih =>
    unfold put
    split
    · exact h
    · split
      · rename_i h1
        refine List.pairwise_cons.2 ⟨fun q hq => ?_, ih h.tail⟩
        rcases put_codes q hq with e | ⟨y, hy, e⟩
        · rw [e]; exact h1
        · rw [← e]; exact h.head y hy
      · rename_i h1
        split
        · rename_i h2
          split
          · exact h.tail
          · refine List.pairwise_cons.2 ⟨fun q hq => ?_, h.tail⟩
            show bl c q.1 = true
            rw [← h2]; exact h.head q hq
        · rename_i h2
          have h3 : bl c p.1 = true := by
            cases g : bl c p.1 with
            | true => rfl
            | false => exact absurd (bl_tri (by simpa using h1) g) h2
          refine List.pairwise_cons.2 ⟨fun q hq => ?_, h⟩
          rcases List.mem_cons.1 hq with rfl | hq
          · exact h3
          · exact bl_trans h3 (h.head q hq)
theorem put_nz {b : Bag} (h : NZ b) (c : ByteArray) (x : Int) : NZ (put b c x) := by
  induction b with
  | nil =>
    unfold put
    split
    · exact h
    · intro p hp; simp at hp; rw [hp]; assumption
  | cons p r ih =>
    unfold put
    split
    · exact h
    · split
      · intro q hq
        rcases List.mem_cons.1 hq with rfl | hq
        · exact h q (by simp)
        · exact ih h.tail q hq
      · split
        · split
          · exact h.tail
          · intro q hq
            rcases List.mem_cons.1 hq with rfl | hq
            · assumption
            · exact h q (by simp [hq])
        · intro q hq
          rcases List.mem_cons.1 hq with rfl | hq
          · assumption
          · exact h q hq

/-- the sum: the amounts of the second are put one after the other -/
def addB (a b : Bag) : Bag := b.foldl (fun s p => put s p.1 p.2) a
theorem addB_asc {a b : Bag} (h : Asc a) : Asc (addB a b) := by
  induction b generalizing a with
  | nil => exact h
  | cons p r ih => exact ih (put_asc h _ _)
theorem addB_nz {a b : Bag} (h : NZ a) : NZ (addB a b) := by
  induction b generalizing a with
  | nil => exact h
  | cons p r ih => exact ih (put_nz h _ _)
theorem addB_amt {a b : Bag} (ha : Asc a) (hb : Asc b) (c : ByteArray) : amt (addB a b) c = amt a c + amt b c := by
  induction b generalizing a with
  | nil => simp [addB, amt]
  | cons p r ih =>
    show amt (addB (put a p.1 p.2) r) c = _
    rw [ih (put_asc ha _ _) hb.tail, put_amt ha, amt.eq_2]
    by_cases hc : p.1 = c
    · rw [if_pos hc, if_pos hc, ← hc, amt_same hb]; omega
    · rw [if_neg hc, if_neg hc]; omega
theorem addB_comm {a b : Bag} (ha : Asc a) (hb : Asc b) (na : NZ a) (nb : NZ b) : addB a b = addB b a :=
  bag_uniq (addB_asc ha) (addB_nz na) (addB_asc hb) (addB_nz nb) fun c => by rw [addB_amt ha hb, addB_amt hb ha, Int.add_comm]
theorem addB_assoc {a b c : Bag} (ha : Asc a) (hb : Asc b) (hc : Asc c) (na : NZ a) : addB (addB a b) c = addB a (addB b c) :=
  bag_uniq (addB_asc (addB_asc ha)) (addB_nz (addB_nz na)) (addB_asc ha) (addB_nz na) fun d => by
    rw [addB_amt (addB_asc ha) hc, addB_amt ha hb, addB_amt ha (addB_asc hb), addB_amt hb hc, Int.add_assoc]
/-- the opposite amounts -/
def negB (b : Bag) : Bag := b.map fun p => (p.1, -p.2)
theorem negB_asc {b : Bag} (h : Asc b) : Asc (negB b) := by
  unfold negB Asc
  rw [List.pairwise_map]
  exact h
theorem negB_nz {b : Bag} (h : NZ b) : NZ (negB b) := fun p hp => by
  unfold negB at hp
  obtain ⟨q, hq, rfl⟩ := List.mem_map.1 hp
  have := h q hq
  show -q.2 ≠ 0
  omega
theorem negB_amt (b : Bag) (c : ByteArray) : amt (negB b) c = -amt b c := by
  induction b with
  | nil => rfl
  | cons p r ih =>
    show amt ((p.1, -p.2) :: negB r) c = _
    rw [amt.eq_2, amt.eq_2]
    by_cases hc : p.1 = c
    · rw [if_pos hc, if_pos hc]
    · rw [if_neg hc, if_neg hc, ih]
theorem addB_neg {a : Bag} (ha : Asc a) (na : NZ a) : addB a (negB a) = [] :=
  bag_uniq (addB_asc ha) (addB_nz na) List.Pairwise.nil (fun _ h => absurd h (by simp)) fun c => by
    rw [addB_amt ha (negB_asc ha), negB_amt]
    show _ = 0
    omega
theorem addB_nil (a : Bag) : addB a [] = a := rfl
theorem addB_one (a : Bag) (c : ByteArray) (x : Int) : addB a (put [] c x) = put a c x := by
  by_cases hx : x = 0
  · rw [hx, put_zero, put_zero]; rfl
  · rw [show put [] c x = [(c, x)] from if_neg hx]; rfl

end Go.Proofs.YtahnkmkmoalbhaaGreatDoor
