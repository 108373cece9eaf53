/- Layer 6: the text of a date; the program's write and Print: the walks. -/
import Derived.Test.YtgpjadlnfofppaaDoorYwd
import Derived.Test.YtgpjadlnfofppaaDoorShelf
import Derived.Test.YtgpjadlnfofppaaDoorShelfB
namespace Go.Proofs.YtgpjadlnfofppaaDoor
open Go.RowKit Dat

/-- a decimal digit -/
def dgt (n : Nat) : UInt8 := UInt8.ofNat (48 + n % 10)
/-- the text of a date -/
def txt (y m d : Nat) : List UInt8 := [dgt (y / 1000), dgt (y / 100), dgt (y / 10), dgt y, 45, dgt (m / 10), dgt m, 45, dgt (d / 10), dgt d]
theorem dgt_nat (n : Nat) : (dgt n).toNat = 48 + n % 10 := by
  unfold dgt
  rw [UInt8.toNat_ofNat']
  omega
theorem dgt_int (n : Nat) : ((dgt n).toNat : Int) = 48 + (n : Int) % 10 := by rw [dgt_nat]; omega
theorem dec_step {u : Nat} (h : ¬ u < 10) : Lib.decDigits u = Lib.decDigits (u / 10) ++ [dgt u] := by
  rw [Lib.decDigits, dif_neg h]
  rfl
theorem itoa_four {y : Nat} (h1 : 1000 ≤ y) (h2 : y ≤ 9999) : Lib.itoa (y : Int) = [dgt (y / 1000), dgt (y / 100), dgt (y / 10), dgt y] := by
  have e : Lib.itoa (y : Int) = Lib.decDigits y := by unfold Lib.itoa; rw [if_neg (by omega)]; simp
  rw [e, dec_step (by omega), dec_step (u := y / 10) (by omega), dec_step (u := y / 10 / 10) (by omega), Lib.decDigits_one (by omega)]
  rw [show y / 10 / 10 / 10 = y / 1000 by omega, show y / 10 / 10 = y / 100 by omega]
  unfold dgt
  rw [Nat.mod_eq_of_lt (show y / 1000 < 10 by omega)]
  rfl
/-- what Print returns -/
def printR (d : Int) : ByteArray × Int := if okD d = true then (⟨(txt (yr (ix d)) (mn (ix d)) (dy (ix d))).toArray⟩, 0) else (⟨#[]⟩, 13)

/-- a builder that this call has made, and what it holds -/
abbrev Bld (w W : World) (b : Nat) (l : List UInt8) : Prop := Lib.IsBuilder 65 5 w.heap.size b (Lib.byteCells l) W
theorem wByte {w W : World} {b : Nat} {l : List UInt8} (c : UInt8) (x : Int) (hx : x = c.toNat) (h : Bld w W b l) (hl : l.length ≤ 1000000) (hb : Below w.heap.size w W) :
    Calls Tryd.prog 47 #[.pointer (some ⟨b, 0, none⟩), .int .u8 x] W fun e w' => e = .returned .nilIface ∧ Bld w w' b (l ++ [c]) ∧ Below w.heap.size w w' := by
  subst hx
  refine (Tryd.Builder_WriteByte w.heap.size b (Lib.byteCells l) (c.toNat : Int) W h (by rw [Lib.byteCells_length]; omega) hb.size).mono ?_
  rintro e w' ⟨rfl, h1, h2⟩
  refine ⟨rfl, Or.inr ?_, hb.trans h2⟩
  rw [Lib.byteCells_append]
  exact h1
theorem wString {w W : World} {b : Nat} {l : List UInt8} (s : ByteArray) (h : Bld w W b l) (hl : l.length + s.size ≤ 10000000) (hb : Below w.heap.size w W) :
    Calls Tryd.prog 45 #[.pointer (some ⟨b, 0, none⟩), .string s] W fun e w' => e = .returned (.tuple #[.int .i64 s.size, .nilIface]) ∧ Bld w w' b (l ++ s.data.toList) ∧ Below w.heap.size w w' := by
  refine (Tryd.Builder_WriteString w.heap.size b (Lib.byteCells l) s W h (by rw [Lib.byteCells_length]; omega) hb.size).mono ?_
  rintro e w' ⟨rfl, h1, h2⟩
  refine ⟨rfl, Or.inr ?_, hb.trans h2⟩
  rw [Lib.byteCells_append, ← Lib.strCells_eq]
  exact h1
theorem wDone {w W : World} {b : Nat} {l : List UInt8} (h : Bld w W b l) (hb : Below w.heap.size w W) :
    Calls Tryd.prog 48 #[.pointer (some ⟨b, 0, none⟩)] W fun e w' => e = .returned (.string ⟨l.toArray⟩) ∧ Below w.heap.size w w' := by
  refine (Tryd.Builder_String_any w.heap.size b l W h hb.size).mono ?_
  rintro e w' ⟨rfl, h2⟩
  exact ⟨rfl, hb.trans h2⟩
theorem Bld.made (w : World) : Bld w (w.alloc (.cells #[.pointer none, .slice none 0 0] 65)) w.heap.size [] := Lib.fresh_isBuilder _ _ w
theorem grown_of_below {w w' : World} (h : Below w.heap.size w w') (row : Option Nat) : w.grownBy w' row := ⟨h.os, h.tape, h.output, h.size, fun i hi _ => h.block i hi⟩
theorem Bld.other {w W V : World} {b : Nat} {l : List UInt8} (h : Bld w W b l) (hV : Below W.heap.size W V) : Bld w V b l := by
  have key : ∀ p, Lib.BuilderAt 65 5 w.heap.size b p (Lib.byteCells l) W → Lib.BuilderAt 65 5 w.heap.size b p (Lib.byteCells l) V := by
    rintro p ⟨h1, v, h2, h3, h4⟩
    refine ⟨h1, v, ?_, ?_, h4⟩
    · rw [hV.block b (Lib.BuilderAt.lt ⟨h1, v, h2, h3, h4⟩)]; exact h2
    · exact h3.kept (grown_of_below hV none) (by by_cases k : v.ownBlock = none; exact Or.inl k; exact Or.inr k)
  exact h.imp (key _) (key _)
theorem below_grow {w : World} (k : Nat) (os : Array Obj) : Below w.heap.size w (Sort.grow (w.drewN k) os) :=
  ⟨rfl, rfl, rfl, by simp [Sort.grow], fun i hi => by
    show (w.heap ++ os)[i]? = _
    rw [Array.getElem?_append_left hi]⟩

/-! ### write -/
set_option maxRecDepth 100000 in
set_option maxHeartbeats 8000000 in
theorem pWrite (y m d : Nat) (w : World) (hG : Ground w) (y1 : 1000 ≤ y) (y2 : y ≤ 9999) (m2 : m ≤ 99) (d2 : d ≤ 99) :
    Calls Tryd.prog 41 #[.int .i64 (y : Int), .int .i64 (m : Int), .int .i64 (d : Int)] w fun e w' => e = .returned (.string ⟨(txt y m d).toArray⟩) ∧ Below w.heap.size w w' := by
  obtain ⟨S, hS⟩ : ∃ S : ByteArray, S = ⟨(Lib.itoa (y : Int)).toArray⟩ := ⟨_, rfl⟩
  have hSl : S.data.toList = [dgt (y / 1000), dgt (y / 100), dgt (y / 10), dgt y] := by rw [hS, ← itoa_four y1 y2]
  have hSs : S.size = 4 := by rw [← size_toList, hSl]; rfl
  have hT := hG.tab
  have HT := Lib.hid (fun W (hB : Below w.heap.size w W) => Tryd.strconv_Itoa (y : Int) (by omega) (by omega) W (hG.below hB).tab)
  rw [← hS] at HT
  obtain ⟨B, hBn⟩ : ∃ b, w.heap.size = b := ⟨_, rfl⟩
  obtain ⟨W1, hW1⟩ : ∃ W1, W1 = w.alloc (.cells #[.pointer none, .slice none 0 0] 65) := ⟨_, rfl⟩
  have HD := Lib.hid (show Bld w W1 B [] by rw [hW1, ← hBn]; exact Bld.made w)
  have HB := Lib.hid (show Below w.heap.size w W1 by rw [hW1]; exact (Below.refl _ _).alloc (Nat.le_refl _) _)
  have HSL := Lib.hid hSl
  have HSS := Lib.hid hSs
  clear hS hSl hSs hT hG
  obtain ⟨mi, hmi⟩ : ∃ mi : Int, mi = m := ⟨_, rfl⟩
  obtain ⟨di, hdi⟩ : ∃ di : Int, di = d := ⟨_, rfl⟩
  obtain ⟨yi, hyi⟩ : ∃ yi : Int, yi = y := ⟨_, rfl⟩
  have hm0 : 0 ≤ mi := by omega
  have hm9 : mi ≤ 99 := by omega
  have hd0 : 0 ≤ di := by omega
  have hd9 : di ≤ 99 := by omega
  rw [← hyi] at HT
  rw [← hmi, ← hdi, ← hyi]
  have HM := Lib.hid hmi
  have HDI := Lib.hid hdi
  clear hmi hdi hyi
  go_enter Tryd.func41, Tryd.ntmps41
  go_wp2_with fail
  rw [← hW1]
  try rw [hBn]
  clear hW1
  refine (HT.out _ HB.out).mono ?_
  rintro _ W2 ⟨rfl, k, os, rfl⟩
  have hD2 := HD.out.other (below_grow k os)
  have hB2 := HB.out.trans ((below_grow k os).mono HB.out.size)
  have HD2 := Lib.hid hD2
  have HB2 := Lib.hid hB2
  clear hD2 hB2 HD HB HT
  go_wp2_with fail
  refine (wString S HD2.out (by rw [HSS.out]; decide) HB2.out).mono ?_
  rintro _ W3 ⟨rfl, hD3, hB3⟩
  rw [HSL.out] at hD3
  have HD3 := Lib.hid hD3
  have HB3 := Lib.hid hB3
  clear hD3 hB3 HD2 HB2 HSL HSS
  go_wp2_with fail
  obtain ⟨L0, hL0⟩ : ∃ L0, L0 = [] ++ [dgt (y / 1000), dgt (y / 100), dgt (y / 10), dgt y] := ⟨_, rfl⟩
  rw [← hL0] at HD3
  have hl0 : L0.length = 4 := by rw [hL0]; rfl
  have HL0 := Lib.hid hL0
  have HLL := Lib.hid hl0
  clear hL0 hl0
  have hix0 : ∀ W, (Instr.index 71 (.agg #[.int .i64 mi, .int .i64 di]) (.int .i64 0)).run Tryd.prog W = .ok (.int .i64 mi) W := fun W => by kernel_rfl
  have hix1 : ∀ W, (Instr.index 71 (.agg #[.int .i64 mi, .int .i64 di]) (.int .i64 1)).run Tryd.prog W = .ok (.int .i64 di) W := fun W => by kernel_rfl
  go_loopw [16] (fun iv wr => ∃ k : Int, iv = .int .i64 k ∧ Hid (Below w.heap.size w wr) ∧ (k = 0 ∧ Hid (Bld w wr B L0) ∨ k = 1 ∧ Hid (Bld w wr B (((L0 ++ [45]) ++ [dgt (m / 10)]) ++ [dgt m])) ∨ k = 2 ∧ Hid (Bld w wr B ((((((L0 ++ [45]) ++ [dgt (m / 10)]) ++ [dgt m]) ++ [45]) ++ [dgt (d / 10)]) ++ [dgt d])))) (fun iv _ => (2 - intOf iv).toNat)
  case atStart => exact ⟨0, rfl, HB3, Or.inl ⟨rfl, HD3⟩⟩
  case round =>
    clear HB3 HD3
    obtain ⟨k, rfl, HB3, hk⟩ := hrel
    rcases hk with ⟨rfl, HD3⟩ | ⟨rfl, HD3⟩ | ⟨rfl, HD3⟩
    · go_wp2_with fail
      refine (wByte 45 45 (by decide) HD3.out (by simp [HLL.out]) HB3.out).mono ?_
      rintro _ V1 ⟨rfl, hDa, hBa⟩
      have HDA := Lib.hid hDa
      have HBA := Lib.hid hBa
      clear hDa hBa HD3 HB3
      go_wp2_with fail
      refine (wByte (dgt (m / 10)) _ (by rw [dgt_int, HM.out]; omega) HDA.out (by simp [HLL.out]) HBA.out).mono ?_
      rintro _ V2 ⟨rfl, hDb, hBb⟩
      have HDB := Lib.hid hDb
      have HBB := Lib.hid hBb
      clear hDb hBb HDA HBA
      go_wp2_with fail
      refine (wByte (dgt m) _ (by rw [dgt_int, HM.out]) HDB.out (by simp [HLL.out]) HBB.out).mono ?_
      rintro _ V3 ⟨rfl, hDc, hBc⟩
      have HDC := Lib.hid hDc
      have HBC := Lib.hid hBc
      clear hDc hBc HDB HBB
      go_wp2_with fail
      go_roundw
      case rel => exact ⟨1, rfl, HBC, Or.inr (Or.inl ⟨rfl, HDC⟩)⟩
      case measure => decide
    · go_wp2_with fail
      refine (wByte 45 45 (by decide) HD3.out (by simp [HLL.out]) HB3.out).mono ?_
      rintro _ V1 ⟨rfl, hDa, hBa⟩
      have HDA := Lib.hid hDa
      have HBA := Lib.hid hBa
      clear hDa hBa HD3 HB3
      go_wp2_with fail
      refine (wByte (dgt (d / 10)) _ (by rw [dgt_int, HDI.out]; omega) HDA.out (by simp [HLL.out]) HBA.out).mono ?_
      rintro _ V2 ⟨rfl, hDb, hBb⟩
      have HDB := Lib.hid hDb
      have HBB := Lib.hid hBb
      clear hDb hBb HDA HBA
      go_wp2_with fail
      refine (wByte (dgt d) _ (by rw [dgt_int, HDI.out]) HDB.out (by simp [HLL.out]) HBB.out).mono ?_
      rintro _ V3 ⟨rfl, hDc, hBc⟩
      have HDC := Lib.hid hDc
      have HBC := Lib.hid hBc
      clear hDc hBc HDB HBB
      go_wp2_with fail
      go_roundw
      case rel => exact ⟨2, rfl, HBC, Or.inr (Or.inr ⟨rfl, HDC⟩)⟩
      case measure => decide
    · go_wp2_with fail
      refine (wDone HD3.out HB3.out).mono ?_
      rintro _ V1 ⟨rfl, hBa⟩
      go_wp2_with fail
      go_ret
      exact ⟨by rw [HL0.out]; rfl, hBa⟩

set_option maxRecDepth 100000 in
set_option maxHeartbeats 8000000 in
theorem pPrint (d : Int) (t : ByteArray) (e : Int) (w : World) (hG : Ground w) (h : printR d = (t, e)) :
    Calls Tryd.prog 27 #[.int .i64 d] w fun r w' => r = .returned (.tuple #[.string t, .int .i64 e]) ∧ Below w.heap.size w w' := by
  unfold printR at h
  have HV := Lib.hid (pValid d w)
  cases hd : okD d with
  | false =>
    rw [hd, if_neg (by decide)] at h
    rw [hd] at HV
    obtain ⟨rfl, rfl⟩ := Prod.mk.inj h
    clear h hd hG
    go_enter Tryd.func27, Tryd.ntmps27
    go_wp2_with fail
    refine (HV.out).mono ?_
    rintro _ _ ⟨rfl, rfl⟩
    go_wp2_with fail
    go_ret2
    exact ⟨rfl, Below.refl _ _⟩
  | true =>
    rw [hd, if_pos rfl] at h
    rw [hd] at HV
    obtain ⟨h1, h2⟩ := Prod.mk.inj h
    subst h2
    obtain ⟨_, hn⟩ := ix_is hd
    have HDO := Lib.hid (pDateOf d (yr (ix d)) (mn (ix d)) (dy (ix d)) w hG hd rfl rfl rfl)
    have g1 := yr_low (ix d)
    have g2 := yr_high hn
    have g3 := mn_le (ix d)
    have g4 := dy_le (ix d)
    have g5 := mlen_high (yr (ix d)) (mn (ix d))
    have HW := Lib.hid (pWrite (yr (ix d)) (mn (ix d)) (dy (ix d)) w hG (by omega) (by omega) (by omega) (by omega))
    have HR := Lib.hid h1
    clear h h1 hd hn hG g1 g2 g3 g4 g5
    go_enter Tryd.func27, Tryd.ntmps27
    go_wp2_with fail
    refine (HV.out).mono ?_
    rintro _ _ ⟨rfl, rfl⟩
    go_wp2_with fail
    refine (HDO.out).mono ?_
    rintro _ _ ⟨rfl, rfl⟩
    go_wp2_with fail
    refine (HW.out).mono ?_
    rintro _ W1 ⟨rfl, hB⟩
    go_wp2_with fail
    go_ret2
    exact ⟨by rw [HR.out]; rfl, hB⟩

end Go.Proofs.YtgpjadlnfofppaaDoor
