/- integer.write: the walk. -/
import Derived.Test.YtahnkmkmoalbhaaGreatDoorZAA
import Derived.Test.YtahnkmkmoalbhaaGreatDoorZAB
import Derived.Lib.AppendStr
import Derived.Lib.BufferRead
import Derived.Lib.ItoaLen
import Derived.LoopIn
import Derived.LoopNIn
import Derived.OwnWalkIn
import Derived.RangeFuncBound
import Derived.RangeFuncCalls
import Derived.RangeFuncLeaves
import Derived.RangeFuncNested
import Derived.Shelf.Abstract
import Derived.Shelf.RegionOpen
import Derived.TacticsInMore
import Derived.WalkKit
namespace Go.Proofs.YtahnkmkmoalbhaaGreatDoor
open Go.RowKit

theorem info_byte : (Tryz.prog.info? 5).map (fun i => (i.zero, i.size, i.bytes)) = some (some (.int .u8 0), 1, 1) := by kernel_rfl

/-- the slice value v owns the bytes l -/
def Txt (w : World) (base : Nat) (v : Value) (l : List UInt8) : Prop := w.ownsRow base 5 1 v l.length (Lib.byteCells l)

def byteRow (c : Nat) : Obj := .cells (madeCells #[.int .u8 0] c) 5
theorem run_makeBytes (c : Nat) (hc : c ≤ 140737488355328) (w : World) :
    (Instr.makeSlice 115 (.int .i64 0) (.int .i64 (c : Int))).run Tryz.prog w = .ok (.slice (some ⟨w.heap.size, 0, none⟩) 0 c) (w.alloc (byteRow c)) := by
  obtain ⟨i0, hi, hz0, hz1, hz2⟩ := info_parts info_byte
  have hr := run_make (P := Tryz.prog) w 115 5 i0 (.int .u8 0) Tryz.underlying115 hi hz0 .i64 .i64 0 c (by omega) (by omega) (by rw [hz2]; omega) (by omega)
  simp only [Int.toNat_natCast] at hr
  rw [hr, hz1]
  simp [byteRow, Value.cells]
theorem Txt.made (w : World) (c : Nat) (hc : c ≤ 140737488355328) {base : Nat} (hb : base ≤ w.heap.size) : Txt (w.alloc (byteRow c)) base (.slice (some ⟨w.heap.size, 0, none⟩) 0 c) [] :=
  World.ownsRow_made w _ c hb (by unfold maxLen; omega) (by simp [size_madeCells])

theorem Txt.kept {w w' : World} {base : Nat} {v : Value} {l : List UInt8} (h : Txt w base v l) (hb : Below w.heap.size w w') : Txt w' base v l := by
  refine World.ownsRow.kept h (grown_of_below hb none) ?_
  cases hv : v.ownBlock with
  | none => exact .inl rfl
  | some b => exact .inr (by simp)
theorem Txt.alloc {w : World} {base : Nat} {v : Value} {l : List UInt8} (h : Txt w base v l) (o : Obj) : Txt (w.alloc o) base v l := World.ownsRow.alloc h o

theorem strCells_eq (s : ByteArray) : Lib.strCells s = Lib.byteCells s.data.toList := rfl

theorem Txt.addString {w : World} {base : Nat} {v : Value} {l : List UInt8} (h : Txt w base v l) (s : ByteArray) (ty : TypeId) (hs : l.length + s.size ≤ 140737488355328) (hb : base ≤ w.heap.size) :
    ∃ v' w', (Builtin.append_ #[115, 9] ty #[v, .string s]).run Tryz.prog w = .ok v' w' ∧ Txt w' base v' (l ++ s.data.toList) ∧ Below base w w' := by
  obtain ⟨i0, hi, hz0, hz1, hz2⟩ := info_parts info_byte
  obtain ⟨v', w', h1, h2, h3, _⟩ := Lib.run_append_own_string (P := Tryz.prog) w base 115 9 ty 5 i0 Tryz.underlying115 Tryz.underlying9 hi hz0 hz1 hz2 v l.length _ h s (by unfold maxLen; omega) hs hb
  refine ⟨v', w', h1, ?_, (Below.refl base w).grown h3 hb (fun k hk => (World.ownsRow.lt h k hk).1)⟩
  unfold Txt
  rw [List.length_append, size_toList, Lib.byteCells_append, ← strCells_eq]
  exact h2

theorem Txt.addByte {w : World} {base : Nat} {v : Value} {l : List UInt8} (h : Txt w base v l) (c : UInt8) (g : Nat) (hg : w.cell? ⟨g, 0, none⟩ = some (.int .u8 c.toNat)) (ty : TypeId) (hs : l.length + 1 ≤ 140737488355328) (hb : base ≤ w.heap.size) :
    ∃ v' w', (Builtin.append_ #[115, 115] ty #[v, .slice (some ⟨g, 0, none⟩) 1 1]).run Tryz.prog w = .ok v' w' ∧ Txt w' base v' (l ++ [c]) ∧ Below base w w' := by
  obtain ⟨i0, hi, hz0, hz1, hz2⟩ := info_parts info_byte
  obtain ⟨v', w', h1, h2, h3, _⟩ := run_append_own (P := Tryz.prog) w base 115 ty 5 i0 (.int .u8 0) 1 1 Tryz.underlying115 hi hz0 hz1 hz2 rfl (by decide) v l.length _ h ⟨g, 0, none⟩ 1 1 [.int .u8 c.toNat] rfl
    (fun j u hj => by
      match j, hj with
      | 0, hj => simp at hj; subst hj; simpa [Addr.add] using hg
      | j + 1, hj => simp at hj)
    (fun u hu => by simp at hu; subst hu; rfl) (by unfold maxLen; omega) (by omega) hb
  refine ⟨v', w', h1, ?_, (Below.refl base w).grown h3 hb (fun k hk => (World.ownsRow.lt h k hk).1)⟩
  unfold Txt
  rw [List.length_append, Lib.byteCells_append]
  exact h2

theorem wp_addString {w : World} {ops : Array Oper} {rest : List Oper} {o : Oper} {a : Act} {Q : Exit → Act → World → Prop} (hgd : o.guard = none) (sl x : Operand)
    (ho : o.op = .call { callee := .builtin .append, args := #[sl, x], argTypes := #[115, 9] })
    (base : Nat) (v : Value) (l : List UInt8) (hs : a.eval sl = v) (h : Txt w base v l) (s : ByteArray) (hx : a.eval x = .string s) (hl : l.length + s.size ≤ 140737488355328) (hb : base ≤ w.heap.size)
    (hK : ∀ v' w', Txt w' base v' (l ++ s.data.toList) → Below base w w' → wpList Tryz.prog ops Q rest (a.put o.dst v') w') : wpList Tryz.prog ops Q (o :: rest) a w := by
  refine wpList_plain hgd fun K hK' => ?_
  obtain ⟨v', w', hr, h2, h3⟩ := h.addString s o.type hl hb
  unfold Oper.wp execOp
  simp only [ho, resolve, invoke, builtin, Sem.run_bind, Sem.run_pure, Result.andThen_ok, List.map_toArray, List.map_cons, List.map_nil, hs, hx, hr]
  exact hK' _ _ (hK v' w' h2 h3)

theorem wp_addByte {w : World} {ops : Array Oper} {rest : List Oper} {o : Oper} {a : Act} {Q : Exit → Act → World → Prop} (hgd : o.guard = none) (sl x : Operand)
    (ho : o.op = .call { callee := .builtin .append, args := #[sl, x], argTypes := #[115, 115] })
    (base : Nat) (v : Value) (l : List UInt8) (hs : a.eval sl = v) (h : Txt w base v l) (c : UInt8) (g : Nat) (hg : w.cell? ⟨g, 0, none⟩ = some (.int .u8 c.toNat)) (hx : a.eval x = .slice (some ⟨g, 0, none⟩) 1 1) (hl : l.length + 1 ≤ 140737488355328) (hb : base ≤ w.heap.size)
    (hK : ∀ v' w', Txt w' base v' (l ++ [c]) → Below base w w' → wpList Tryz.prog ops Q rest (a.put o.dst v') w') : wpList Tryz.prog ops Q (o :: rest) a w := by
  refine wpList_plain hgd fun K hK' => ?_
  obtain ⟨v', w', hr, h2, h3⟩ := h.addByte c g hg o.type hl hb
  unfold Oper.wp execOp
  simp only [ho, resolve, invoke, builtin, Sem.run_bind, Sem.run_pure, Result.andThen_ok, List.map_toArray, List.map_cons, List.map_nil, hs, hx, hr]
  exact hK' _ _ (hK v' w' h2 h3)

theorem Txt.string {w : World} {base : Nat} {v : Value} {l : List UInt8} (h : Txt w base v l) (hl : l ≠ []) : (convert 115 33 v).run Tryz.prog w = .ok (.string ⟨l.toArray⟩) w := by
  have hpos := List.length_pos_iff.2 hl
  rcases h.2 with ⟨_, h0⟩ | ⟨g, cap, cur, rfl, _, hg, _, _, _, htake⟩
  · omega
  · exact run_convert_bytes_back w 115 33 5 ⟨g, 0, none⟩ cap l Tryz.underlying115 Tryz.underlying5 Tryz.underlying33
      (Lib.bytes_of_row hg (by simpa using htake))

theorem Can_drop {zs : List Int} (h : Num.Can zs) (k : Nat) : Num.Can (zs.drop k) := by
  induction k generalizing zs with
  | zero => simpa using h
  | succ k ih =>
    cases zs with
    | nil => simpa using Num.Can.nil
    | cons z zs => simpa using ih h.tail

/-- the text while it is put together -/
def lead (neg : Bool) : List UInt8 := if neg then [45] else []

theorem write_step {zs : List Int} (h : Num.Can zs) {j : Nat} (hj : j + 1 < zs.length) (pre : List UInt8) :
    pre ++ Num.dig1 (Num.gval (zs.drop (j + 1))) ++ Num.pad9 (zs.getD j 0) = pre ++ Num.dig1 (Num.gval (zs.drop j)) := by
  have hp := Num.gval_pos (Can_drop h (j + 1)) (by rw [Ne, List.drop_eq_nil_iff]; omega)
  have hz := h.1.getD j
  rw [List.append_assoc, ← Num.dig1_step (by omega) hz.1 hz.2]
  rw [List.drop_eq_getElem_cons (show j < zs.length by omega)]
  simp [Num.gval, List.getD, show j < zs.length by omega]
theorem write_first {zs : List Int} (h : Num.Can zs) {n : Nat} (hn : zs.length = n + 1) : Lib.itoa (zs.getD n 0) = Num.dig1 (Num.gval (zs.drop n)) := by
  have hz := h.1.getD n
  rw [Num.dig1_itoa hz.1, List.drop_eq_getElem_cons (show n < zs.length by omega), List.drop_of_length_le (by omega)]
  simp [Num.gval, List.getD, show n < zs.length by omega]
theorem write_done (neg : Bool) {z : Int} (h : 0 < z) : lead neg ++ Num.dig1 z = Num.canon (if neg then -z else z) := by
  cases neg
  · simp [lead, Num.canon_pos h]
  · simp [lead, Num.canon_neg h]

theorem dig1_ne (z : Int) : Num.dig1 z ≠ [] := Num.decDigits_ne _
theorem num9 {z : Int} (h0 : 0 ≤ z) (h1 : z < 1000000000) : (Lib.itoa z).length ≤ 21 := Lib.itoa_length_le z (by omega) (by omega)

/-- the sign for negative -/
def sg (neg : Bool) (z : Int) : Int := if neg then -z else z

set_option maxRecDepth 100000 in
set_option maxHeartbeats 2000000 in
theorem write_nil (neg : Bool) (w : World) (xa : Option Addr) (cap : Nat) :
    Calls Tryz.prog 68 #[.bool neg, .slice xa 0 cap] w fun e w' => e = .returned (.string (cS (sg neg (Num.gval [])))) ∧ Below w.heap.size w w' := by
  go_enter Tryz.func68, Tryz.ntmps68
  go_wp2
  go_ret
  exact ⟨by cases neg <;> rfl, Below.refl _ _⟩

set_option maxRecDepth 100000 in
set_option maxHeartbeats 2000000 in
theorem write_pos (w : World) (hG : Ground w) (b o cap n : Nat) (zs : List Int) (hn : zs.length = n + 1) (hx : Sl w b o cap zs) (cz : Num.Can zs) (hlim : n ≤ 1099511627776) :
    Calls Tryz.prog 68 #[.bool false, .slice (some ⟨b, o, none⟩) (n + 1) cap] w fun e w' => e = .returned (.string (cS (sg false (Num.gval zs)))) ∧ Below w.heap.size w w' := by
  have hmk := run_makeBytes (1 + 9 * (n + 1)) (by omega)
  rw [show ((1 + 9 * (n + 1) : Nat) : Int) = 1 + 9 * ((n : Int) + 1) by omega] at hmk
  obtain ⟨x, hxx⟩ : ∃ x, x = zs.getD n 0 := ⟨_, rfl⟩
  have hxb := cz.1.getD n
  rw [← hxx] at hxb
  unfold Num.B at hxb
  have hfirst := write_first cz hn
  rw [← hxx] at hfirst
  have hz0 : ((n : Int) + 1 == 0) = false := by rw [beq_eq_false_iff_ne]; omega
  have hpos := Num.gval_pos cz (by rintro rfl; simp at hn)
  have HP := Lib.hid hpos
  have HF := Lib.hid hfirst
  have HX := Lib.hid hxx
  have HN := Lib.hid hn
  clear hpos hfirst hn
  have hc0 := (hx.alloc (byteRow (1 + 9 * (n + 1)))).cell n (by have := HN.out; omega)
  rw [← hxx] at hc0
  clear hxx
  have hT := Txt.made w (1 + 9 * (n + 1)) (by omega) (Nat.le_refl _)
  have hB : Below w.heap.size w (w.alloc (byteRow (1 + 9 * (n + 1)))) := (Below.refl _ _).alloc (Nat.le_refl _) _
  have HT := Lib.hid hT
  have HB := Lib.hid hB
  clear hT hB
  go_enter Tryz.func68, Tryz.ntmps68
  go_wp2_with fail
  refine (Tryz.strconv_Itoa x (by omega) (by omega) _ (hG.below HB.out).tab).mono ?_
  rintro e W1 ⟨rfl, q, os, hW⟩
  have hB1 := HB.out.trans ((below_grow (w := w.alloc (byteRow (1 + 9 * (n + 1)))) q os).mono (HB.out.size))
  have hT1 := HT.out.kept (below_grow (w := w.alloc (byteRow (1 + 9 * (n + 1)))) q os)
  rw [← hW] at hB1 hT1
  have hxl : (ByteArray.mk (Lib.itoa x).toArray).size ≤ 21 := by have := num9 hxb.1 hxb.2; rw [← size_toList]; simpa using this
  rw [HF.out] at hxl
  rw [HF.out]
  have HT1 := Lib.hid hT1
  have HB1 := Lib.hid hB1
  clear hW hB1 hT1
  go_wp2_with (at_builtin; refine wp_addString rfl _ _ rfl w.heap.size _ _ rfl HT1.out _ rfl (by simp; omega) HB1.out.size ?_; intro v2 W2 hT2 hB2; have HT2 := Lib.hid hT2; have HB2 := Lib.hid (HB1.out.trans hB2); clear hT2 hB2)
  have hlen0 : (lead false ++ Num.dig1 (Num.gval (zs.drop n))).length ≤ 22 + 21 * (n - n) := by
    have h1 : (lead false).length ≤ 1 := by decide
    have h2 : (Num.dig1 (Num.gval (zs.drop n))).length ≤ 21 := by rw [← HF.out]; exact num9 hxb.1 hxb.2
    rw [List.length_append]; omega
  have HLen0 := Lib.hid hlen0
  clear hlen0
  go_loopw [5, 7] (fun tv iv wr => ∃ k : Nat, k ≤ n ∧ iv = .int .i64 ((k : Int) - 1) ∧ Txt wr w.heap.size tv (lead false ++ Num.dig1 (Num.gval (zs.drop k))) ∧ (lead false ++ Num.dig1 (Num.gval (zs.drop k))).length ≤ 22 + 21 * (n - k) ∧ Below w.heap.size w wr) (fun _ iv _ => (intOf iv + 1).toNat)
  case atStart => exact ⟨n, Nat.le_refl _, rfl, HT2.out, HLen0.out, HB2.out⟩
  case round =>
    clear HT2 HB2 HT1 HB1
    obtain ⟨k, hk, rfl, hT, hlen, hB⟩ := hrel
    have HT := Lib.hid hT
    have HB := Lib.hid hB
    clear hT hB
    by_cases h0 : k = 0
    · subst h0
      have hstr := HT.out.string (by simp [dig1_ne])
      have hfin := write_done false (z := Num.gval zs) HP.out
      have HFin := Lib.hid hfin
      clear hfin
      go_wp2_with fail
      go_ret
      exact ⟨by rw [HFin.out]; rfl, HB.out⟩
    · obtain ⟨j, rfl⟩ : ∃ j, k = j + 1 := ⟨k - 1, by omega⟩
      rw [show ((j + 1 : Nat) : Int) - 1 = (j : Int) by omega]
      obtain ⟨y, hyy⟩ : ∃ y, y = zs.getD j 0 := ⟨_, rfl⟩
      have hyb := cz.1.getD j
      rw [← hyy] at hyb
      unfold Num.B at hyb
      have hyc := (hx.below HB.out hx.lt).cell j (by have := HN.out; omega)
      rw [← hyy] at hyc
      have HY := Lib.hid hyy
      clear hyy
      go_wp2_with fail
      refine (Tryz.strconv_Itoa (1000000000 + y) (by omega) (by omega) _ (hG.below HB.out).tab).mono ?_
      rintro e W3 ⟨rfl, q2, os2, hW⟩
      have hB3 := HB.out.trans ((below_grow (w := wr) q2 os2).mono (HB.out.size))
      have hT3 := HT.out.kept (below_grow (w := wr) q2 os2)
      rw [← hW] at hB3 hT3
      obtain ⟨S, hS⟩ : ∃ S : ByteArray, S = ⟨(Lib.itoa (1000000000 + y)).toArray⟩ := ⟨_, rfl⟩
      have hS1 : 1 ≤ S.size ∧ S.size ≤ 21 := by
        have h1 := Lib.itoa_length_le (1000000000 + y) (by omega) (by omega)
        have h2 : Lib.itoa (1000000000 + y) ≠ [] := by rw [Num.dig1_itoa (by omega)]; exact dig1_ne _
        have h3 := List.length_pos_iff.2 h2
        rw [hS, ← size_toList]; simp; omega
      have hpad : (S.extract 1 S.size).data.toList = Num.pad9 y := by
        rw [Lib.extract_to_end, hS]; unfold Num.pad9; simp
      have hel : (S.extract 1 S.size).size ≤ 21 := by rw [← size_toList, Lib.extract_to_end, List.length_drop, size_toList]; omega
      rw [← hS]
      have HT3 := Lib.hid hT3
      have HB3 := Lib.hid hB3
      have HPad := Lib.hid hpad
      have HEL := Lib.hid hel
      have hlen2 : (lead false ++ Num.dig1 (Num.gval (zs.drop (j + 1)))).length ≤ 30000000000000 := by omega
      have HLen := Lib.hid hlen
      have HLen2 := Lib.hid hlen2
      clear hW hB3 hT3 hS hpad hel hlen hlen2
      go_wp2_with (at_builtin; refine wp_addString rfl _ _ rfl w.heap.size _ _ rfl HT3.out _ rfl (by have := HEL.out; have := HLen2.out; omega) HB3.out.size ?_; intro v4 W4 hT4 hB4; have HT4 := Lib.hid hT4; have HB4 := Lib.hid (HB3.out.trans hB4); clear hT4 hB4)
      have hT4 := HT4.out
      rw [HPad.out, HY.out, write_step cz (by have := HN.out; omega)] at hT4
      have hl4 : (lead false ++ Num.dig1 (Num.gval (zs.drop j))).length ≤ 22 + 21 * (n - j) := by
        rw [← write_step cz (by have := HN.out; omega), List.length_append, ← HY.out, ← HPad.out, size_toList]
        have := HEL.out; have := HLen.out; omega
      go_roundw
      case rel => exact ⟨j, by omega, rfl, hT4, hl4, HB4.out⟩
      case measure => simp [intOf]

set_option maxRecDepth 100000 in
set_option maxHeartbeats 2000000 in
theorem write_neg (w : World) (hG : Ground w) (b o cap n : Nat) (zs : List Int) (hn : zs.length = n + 1) (hx : Sl w b o cap zs) (cz : Num.Can zs) (hlim : n ≤ 1099511627776) :
    Calls Tryz.prog 68 #[.bool true, .slice (some ⟨b, o, none⟩) (n + 1) cap] w fun e w' => e = .returned (.string (cS (sg true (Num.gval zs)))) ∧ Below w.heap.size w w' := by
  have hmk := run_makeBytes (1 + 9 * (n + 1)) (by omega)
  rw [show ((1 + 9 * (n + 1) : Nat) : Int) = 1 + 9 * ((n : Int) + 1) by omega] at hmk
  obtain ⟨x, hxx⟩ : ∃ x, x = zs.getD n 0 := ⟨_, rfl⟩
  have hxb := cz.1.getD n
  rw [← hxx] at hxb
  unfold Num.B at hxb
  have hfirst := write_first cz hn
  rw [← hxx] at hfirst
  have hz0 : ((n : Int) + 1 == 0) = false := by rw [beq_eq_false_iff_ne]; omega
  have hpos := Num.gval_pos cz (by rintro rfl; simp at hn)
  have HP := Lib.hid hpos
  have HF := Lib.hid hfirst
  have HX := Lib.hid hxx
  have HN := Lib.hid hn
  clear hpos hfirst hn
  have hc0 := (hx.alloc (byteRow (1 + 9 * (n + 1)))).cell n (by have := HN.out; omega)
  rw [← hxx] at hc0
  clear hxx
  have hT0 : Txt ((w.alloc (byteRow (1 + 9 * (n + 1)))).alloc (.cells #[.int .u8 45] 5)) w.heap.size (.slice (some ⟨w.heap.size, 0, none⟩) 0 (1 + 9 * (n + 1))) [] :=
    (Txt.made w _ (by omega) (Nat.le_refl _)).alloc _
  have hB0 : Below w.heap.size w ((w.alloc (byteRow (1 + 9 * (n + 1)))).alloc (.cells #[.int .u8 45] 5)) := ((Below.refl _ _).alloc (Nat.le_refl _) _).alloc (by simp) _
  have HT0 := Lib.hid hT0
  have HB0 := Lib.hid hB0
  clear hT0 hB0 hc0
  go_enter Tryz.func68, Tryz.ntmps68
  go_wp2_with (at_builtin; refine wp_addByte rfl _ _ rfl w.heap.size _ _ rfl HT0.out 45 (w.heap.size + 1) (by simp) rfl (by simp) (by simp; omega) ?_; intro v0 W0 hT hBa; have HT := Lib.hid hT; have HB := Lib.hid (HB0.out.trans hBa); have hc1 := ((hx.below HB.out hx.lt)).cell n (by have := HN.out; omega); rw [← HX.out] at hc1; clear hT hBa)
  refine (Tryz.strconv_Itoa x (by omega) (by omega) _ (hG.below HB.out).tab).mono ?_
  rintro e W1 ⟨rfl, q, os, hW⟩
  have hB1 := HB.out.trans ((below_grow (w := W0) q os).mono (HB.out.size))
  have hT1 := HT.out.kept (below_grow (w := W0) q os)
  rw [← hW] at hB1 hT1
  have hxl : (ByteArray.mk (Lib.itoa x).toArray).size ≤ 21 := by have := num9 hxb.1 hxb.2; rw [← size_toList]; simpa using this
  rw [HF.out] at hxl
  rw [HF.out]
  have HT1 := Lib.hid hT1
  have HB1 := Lib.hid hB1
  clear hW hB1 hT1
  go_wp2_with (at_builtin; refine wp_addString rfl _ _ rfl w.heap.size _ _ rfl HT1.out _ rfl (by simp; omega) HB1.out.size ?_; intro v2 W2 hT2 hB2; have HT2 := Lib.hid hT2; have HB2 := Lib.hid (HB1.out.trans hB2); clear hT2 hB2)
  have hlen0 : (lead true ++ Num.dig1 (Num.gval (zs.drop n))).length ≤ 22 + 21 * (n - n) := by
    have h1 : (lead true).length ≤ 1 := by decide
    have h2 : (Num.dig1 (Num.gval (zs.drop n))).length ≤ 21 := by rw [← HF.out]; exact num9 hxb.1 hxb.2
    rw [List.length_append]; omega
  have HLen0 := Lib.hid hlen0
  clear hlen0
  go_loopw [5, 7] (fun tv iv wr => ∃ k : Nat, k ≤ n ∧ iv = .int .i64 ((k : Int) - 1) ∧ Txt wr w.heap.size tv (lead true ++ Num.dig1 (Num.gval (zs.drop k))) ∧ (lead true ++ Num.dig1 (Num.gval (zs.drop k))).length ≤ 22 + 21 * (n - k) ∧ Below w.heap.size w wr) (fun _ iv _ => (intOf iv + 1).toNat)
  case atStart => exact ⟨n, Nat.le_refl _, rfl, HT2.out, HLen0.out, HB2.out⟩
  case round =>
    clear HT2 HB2 HT1 HB1
    obtain ⟨k, hk, rfl, hT, hlen, hB⟩ := hrel
    have HT := Lib.hid hT
    have HB := Lib.hid hB
    clear hT hB
    by_cases h0 : k = 0
    · subst h0
      have hstr := HT.out.string (by simp [dig1_ne])
      have hfin := write_done true (z := Num.gval zs) HP.out
      have HFin := Lib.hid hfin
      clear hfin
      go_wp2_with fail
      go_ret
      exact ⟨by rw [HFin.out]; rfl, HB.out⟩
    · obtain ⟨j, rfl⟩ : ∃ j, k = j + 1 := ⟨k - 1, by omega⟩
      rw [show ((j + 1 : Nat) : Int) - 1 = (j : Int) by omega]
      obtain ⟨y, hyy⟩ : ∃ y, y = zs.getD j 0 := ⟨_, rfl⟩
      have hyb := cz.1.getD j
      rw [← hyy] at hyb
      unfold Num.B at hyb
      have hyc := (hx.below HB.out hx.lt).cell j (by have := HN.out; omega)
      rw [← hyy] at hyc
      have HY := Lib.hid hyy
      clear hyy
      go_wp2_with fail
      refine (Tryz.strconv_Itoa (1000000000 + y) (by omega) (by omega) _ (hG.below HB.out).tab).mono ?_
      rintro e W3 ⟨rfl, q2, os2, hW⟩
      have hB3 := HB.out.trans ((below_grow (w := wr) q2 os2).mono (HB.out.size))
      have hT3 := HT.out.kept (below_grow (w := wr) q2 os2)
      rw [← hW] at hB3 hT3
      obtain ⟨S, hS⟩ : ∃ S : ByteArray, S = ⟨(Lib.itoa (1000000000 + y)).toArray⟩ := ⟨_, rfl⟩
      have hS1 : 1 ≤ S.size ∧ S.size ≤ 21 := by
        have h1 := Lib.itoa_length_le (1000000000 + y) (by omega) (by omega)
        have h2 : Lib.itoa (1000000000 + y) ≠ [] := by rw [Num.dig1_itoa (by omega)]; exact dig1_ne _
        have h3 := List.length_pos_iff.2 h2
        rw [hS, ← size_toList]; simp; omega
      have hpad : (S.extract 1 S.size).data.toList = Num.pad9 y := by
        rw [Lib.extract_to_end, hS]; unfold Num.pad9; simp
      have hel : (S.extract 1 S.size).size ≤ 21 := by rw [← size_toList, Lib.extract_to_end, List.length_drop, size_toList]; omega
      rw [← hS]
      have HT3 := Lib.hid hT3
      have HB3 := Lib.hid hB3
      have HPad := Lib.hid hpad
      have HEL := Lib.hid hel
      have hlen2 : (lead true ++ Num.dig1 (Num.gval (zs.drop (j + 1)))).length ≤ 30000000000000 := by omega
      have HLen := Lib.hid hlen
      have HLen2 := Lib.hid hlen2
      clear hW hB3 hT3 hS hpad hel hlen hlen2
      go_wp2_with (at_builtin; refine wp_addString rfl _ _ rfl w.heap.size _ _ rfl HT3.out _ rfl (by have := HEL.out; have := HLen2.out; omega) HB3.out.size ?_; intro v4 W4 hT4 hB4; have HT4 := Lib.hid hT4; have HB4 := Lib.hid (HB3.out.trans hB4); clear hT4 hB4)
      have hT4 := HT4.out
      rw [HPad.out, HY.out, write_step cz (by have := HN.out; omega)] at hT4
      have hl4 : (lead true ++ Num.dig1 (Num.gval (zs.drop j))).length ≤ 22 + 21 * (n - j) := by
        rw [← write_step cz (by have := HN.out; omega), List.length_append, ← HY.out, ← HPad.out, size_toList]
        have := HEL.out; have := HLen.out; omega
      go_roundw
      case rel => exact ⟨j, by omega, rfl, hT4, hl4, HB4.out⟩
      case measure => simp [intOf]

/-- write, at every sign, and for a slice that may be nil -/
theorem write_any (neg : Bool) (w : World) (hG : Ground w) (xa : Option Addr) (cap : Nat) (zs : List Int) (hx : 0 < zs.length → ∃ b o, xa = some ⟨b, o, none⟩ ∧ Sl w b o cap zs) (cz : Num.Can zs) (hlim : zs.length ≤ 1099511627776) :
    Calls Tryz.prog 68 #[.bool neg, .slice xa zs.length cap] w fun e w' => e = .returned (.string (cS (sg neg (Num.gval zs)))) ∧ Below w.heap.size w w' := by
  by_cases h0 : zs.length = 0
  · obtain rfl : zs = [] := List.eq_nil_of_length_eq_zero h0
    exact write_nil neg w xa cap
  · obtain ⟨n, hn⟩ : ∃ n, zs.length = n + 1 := ⟨zs.length - 1, by omega⟩
    obtain ⟨b, o, rfl, hsl⟩ := hx (by omega)
    rw [hn]
    cases neg
    · exact write_pos w hG b o cap n zs hn hsl cz (by omega)
    · exact write_neg w hG b o cap n zs hn hsl cz (by omega)

end Go.Proofs.YtahnkmkmoalbhaaGreatDoor

/- integer.Add, Sub, Mul: walks by contracts. -/
namespace Go.Proofs.YtahnkmkmoalbhaaGreatDoor
open Go.RowKit

theorem vS_sg (s : ByteArray) : vS s = sg (Num.sneg s.data.toList) (Num.gval (gS s)) := by
  rw [gS_val]
  cases h : Num.sneg s.data.toList
  · have := (vS_pos h).2; simp only [sg]; simp; omega
  · have := (vS_neg h).2; simp only [sg]; simp; omega

theorem gS_length (s : ByteArray) (hs : s.size ≤ 4294967296) : (gS s).length ≤ 500000000 := by
  unfold gS; rw [Num.grps_length]
  have := Num.sdig_length s.data.toList
  rw [size_toList] at this; omega

/-- what an operation with one string as its result leaves -/
def StrPost (w : World) (z : Int) (e : Ending) (w' : World) : Prop := e = .returned (.string (cS z)) ∧ Below w.heap.size w w'

/-- write at what combine leaves -/
theorem write_row (neg : Bool) (w0 w : World) (hG : Ground w) (hB : Below w0.heap.size w0 w) (b cap : Nat) (zs : List Int) (hx : Sl w b 0 cap zs) (cz : Num.Can zs) {z : Int} (hz : sg neg (Num.gval zs) = z) :
    Calls Tryz.prog 68 #[.bool neg, .slice (some ⟨b, 0, none⟩) zs.length cap] w (StrPost w0 z) := by
  refine (write_any neg w hG _ cap zs (fun _ => ⟨b, 0, rfl, hx⟩) cz (by have := hx.le; have := hx.max; omega)).mono ?_
  rintro e w' ⟨rfl, hb⟩
  exact ⟨by rw [hz], hB.trans (hb.mono hB.size)⟩

set_option maxRecDepth 100000 in
set_option maxHeartbeats 2000000 in
theorem add_any (a b : ByteArray) (w : World) (hG : Ground w) (ha : a.size ≤ 4294967296) (hb : b.size ≤ 4294967296) :
    Calls Tryz.prog 35 #[.string a, .string b] w (StrPost w (vS a + vS b)) := by
  have hva := vS_sg a
  have hvb := vS_sg b
  obtain ⟨na, hna⟩ : ∃ na, na = Num.sneg a.data.toList := ⟨_, rfl⟩
  obtain ⟨nb, hnb⟩ : ∃ nb, nb = Num.sneg b.data.toList := ⟨_, rfl⟩
  rw [← hna] at hva
  rw [← hnb] at hvb
  have HNA := Lib.hid hna
  have HNB := Lib.hid hnb
  have HVA := Lib.hid hva
  have HVB := Lib.hid hvb
  have hla := gS_length a ha
  have hlb := gS_length b hb
  have ga0 := Num.gval_nonneg (gS_can a).1
  have gb0 := Num.gval_nonneg (gS_can b).1
  clear hna hnb hva hvb
  go_enter Tryz.func35, Tryz.ntmps35
  go_wp2_with fail
  refine (read_any a w ha).mono ?_
  rintro e w1 ⟨bx, cx, rfl, hsx, hbx, hB1⟩
  rw [← HNA.out]
  go_wp2_with fail
  refine (read_any b w1 hb).mono ?_
  rintro e w2 ⟨bY, cy, rfl, hsy, hby, hB2⟩
  rw [← HNB.out]
  have hB : Below w.heap.size w w2 := hB1.trans (hB2.mono hB1.size)
  have hsx2 : Sl w2 bx 0 cx (gS a) := hsx.below hB2 hsx.lt
  have hG2 := hG.below hB
  have hbw : w.heap.size ≤ bY := by have := hB1.size; omega
  clear hB1 hB2 hsx
  by_cases hs : na = nb
  · subst hs
    obtain ⟨zs, hzs⟩ : ∃ zs, zs = Num.groups (Num.gval (gS a) + Num.gval (gS b)) := ⟨_, rfl⟩
    have hzc : Num.Can zs := by rw [hzs]; exact Num.Can.groups _
    have hzg : Num.gval zs = Num.gval (gS a) + 1 * Num.gval (gS b) := by rw [hzs, Num.gval_groups (by omega)]; omega
    have hv : sg na (Num.gval zs) = vS a + vS b := by rw [HVA.out, HVB.out, hzg]; cases na <;> simp [sg] <;> omega
    have HZG := Lib.hid hzg
    have HV := Lib.hid hv
    have hbb : (na == na) = true := by simp
    clear hzs hzg hv
    go_wp2_with fail
    refine (combine_any 1 w2 (some ⟨bx, 0, none⟩) cx bY 0 cy _ _ (gS a) (gS b) zs rfl rfl (fun _ => ⟨bx, 0, rfl, hsx2⟩) hsy (gS_can a).1 (gS_can b).1 (.inl rfl) (by omega) hzc HZG.out).mono ?_
    rintro e w3 ⟨b3, c3, rfl, hs3, hb3, hB3⟩
    go_wp2_with fail
    refine (write_row na w w3 (hG2.below hB3) (hB.trans (hB3.mono hB.size)) b3 c3 zs hs3 hzc HV.out).mono ?_
    rintro e w4 ⟨rfl, hB4⟩
    go_wp2_with fail
    go_ret
    exact ⟨rfl, hB4⟩
  · have hbb : (na == nb) = false := by simpa using hs
    by_cases hlt : Num.gval (gS a) < Num.gval (gS b)
    · have hcm : cmp3 (Num.gval (gS a)) (Num.gval (gS b)) < 0 := by rw [cmp3_lt hlt]; decide
      obtain ⟨zs, hzs⟩ : ∃ zs, zs = Num.groups (Num.gval (gS b) - Num.gval (gS a)) := ⟨_, rfl⟩
      have hzc : Num.Can zs := by rw [hzs]; exact Num.Can.groups _
      have hzg : Num.gval zs = Num.gval (gS b) + -1 * Num.gval (gS a) := by rw [hzs, Num.gval_groups (by omega)]; omega
      have hv : sg nb (Num.gval zs) = vS a + vS b := by rw [HVA.out, HVB.out, hzg]; cases na <;> cases nb <;> simp [sg] at hs ⊢ <;> omega
      have HZG := Lib.hid hzg
      have HV := Lib.hid hv
      have HCM := Lib.hid hcm
      clear hzs hzg hv hcm
      go_wp2_with fail
      refine (compareGroups_any w2 bx 0 cx bY 0 cy _ _ (gS a) (gS b) rfl rfl hsx2 hsy (gS_can a) (gS_can b)).mono ?_
      rintro e w3 ⟨rfl, k, rfl⟩
      obtain ⟨c, hc⟩ : ∃ c, c = cmp3 (Num.gval (gS a)) (Num.gval (gS b)) := ⟨_, rfl⟩
      rw [← hc]
      have hcb : c < 0 := by rw [hc]; exact HCM.out
      clear hc
      have hBk : Below w2.heap.size w2 (w2.drewN k) := below_drewN (Below.refl _ _) k
      go_wp2_with fail
      refine (combine_any (-1) (w2.drewN k) (some ⟨bY, 0, none⟩) cy bx 0 cx _ _ (gS b) (gS a) zs rfl rfl (fun _ => ⟨bY, 0, rfl, hsy.drewN k⟩) (hsx2.drewN k) (gS_can b).1 (gS_can a).1 (.inr rfl) (by omega) hzc HZG.out).mono ?_
      rintro e w3 ⟨b3, c3, rfl, hs3, hb3, hB3⟩
      have hB3' : Below w2.heap.size w2 w3 := hBk.trans (hB3.mono (Nat.le_refl _))
      go_wp2_with fail
      refine (write_row nb w w3 (hG2.below hB3') (hB.trans (hB3'.mono hB.size)) b3 c3 zs hs3 hzc HV.out).mono ?_
      rintro e w4 ⟨rfl, hB4⟩
      go_wp2_with fail
      go_ret
      exact ⟨rfl, hB4⟩
    · have hcm : ¬ cmp3 (Num.gval (gS a)) (Num.gval (gS b)) < 0 := by unfold cmp3; rw [if_neg hlt]; split <;> omega
      obtain ⟨zs, hzs⟩ : ∃ zs, zs = Num.groups (Num.gval (gS a) - Num.gval (gS b)) := ⟨_, rfl⟩
      have hzc : Num.Can zs := by rw [hzs]; exact Num.Can.groups _
      have hzg : Num.gval zs = Num.gval (gS a) + -1 * Num.gval (gS b) := by rw [hzs, Num.gval_groups (by omega)]; omega
      have hv : sg na (Num.gval zs) = vS a + vS b := by rw [HVA.out, HVB.out, hzg]; cases na <;> cases nb <;> simp [sg] at hs ⊢ <;> omega
      have HZG := Lib.hid hzg
      have HV := Lib.hid hv
      have HCM := Lib.hid hcm
      clear hzs hzg hv hcm
      go_wp2_with fail
      refine (compareGroups_any w2 bx 0 cx bY 0 cy _ _ (gS a) (gS b) rfl rfl hsx2 hsy (gS_can a) (gS_can b)).mono ?_
      rintro e w3 ⟨rfl, k, rfl⟩
      obtain ⟨c, hc⟩ : ∃ c, c = cmp3 (Num.gval (gS a)) (Num.gval (gS b)) := ⟨_, rfl⟩
      rw [← hc]
      have hcb : ¬ c < 0 := by rw [hc]; have := HCM.out; omega
      clear hc
      have hBk : Below w2.heap.size w2 (w2.drewN k) := below_drewN (Below.refl _ _) k
      go_wp2_with fail
      refine (combine_any (-1) (w2.drewN k) (some ⟨bx, 0, none⟩) cx bY 0 cy _ _ (gS a) (gS b) zs rfl rfl (fun _ => ⟨bx, 0, rfl, hsx2.drewN k⟩) (hsy.drewN k) (gS_can a).1 (gS_can b).1 (.inr rfl) (by omega) hzc HZG.out).mono ?_
      rintro e w3 ⟨b3, c3, rfl, hs3, hb3, hB3⟩
      have hB3' : Below w2.heap.size w2 w3 := hBk.trans (hB3.mono (Nat.le_refl _))
      go_wp2_with fail
      refine (write_row na w w3 (hG2.below hB3') (hB.trans (hB3'.mono hB.size)) b3 c3 zs hs3 hzc HV.out).mono ?_
      rintro e w4 ⟨rfl, hB4⟩
      go_wp2_with fail
      go_ret
      exact ⟨rfl, hB4⟩

theorem canon_length_le {z : Int} {k : Nat} (h : z.natAbs < 10 ^ k) : (Num.canon z).length ≤ k + 1 := by
  have : (Num.digs z.natAbs).length ≤ k := by
    by_cases h0 : z.natAbs = 0
    · rw [h0]; exact Nat.zero_le _
    · unfold Num.digs; rw [if_neg h0, Lib.decDigits_length]
      by_cases hk : Lib.nDigits z.natAbs ≤ k
      · exact hk
      · exfalso
        have hp := Num.Plain.digs z.natAbs
        have h1 : Num.digs z.natAbs = Lib.decDigits z.natAbs := by unfold Num.digs; rw [if_neg h0]
        have h2 := Num.num_digs z.natAbs
        rw [h1] at hp h2
        cases hd : Lib.decDigits z.natAbs with
        | nil => exact Num.decDigits_ne _ hd
        | cons c r =>
          rw [hd] at hp h2
          have hc := hp.1
          simp only [List.all_cons, Bool.and_eq_true] at hc
          have h3 := Num.num_ge c r hc.1 (by have := hp.2; simpa using this)
          have h4 : r.length + 1 = Lib.nDigits z.natAbs := by rw [← Lib.decDigits_length, hd]; rfl
          have h5 := Nat.pow_le_pow_right (show 1 ≤ 10 by decide) (show k ≤ r.length by omega)
          omega
  unfold Num.canon; split <;> simp <;> omega
theorem cS_size {z : Int} {k : Nat} (h : z.natAbs < 10 ^ k) : (cS z).size ≤ k + 1 := by
  have := canon_length_le h
  rw [← size_toList]; exact this
theorem vS_lt (s : ByteArray) : (vS s).natAbs < 10 ^ s.size := by
  unfold vS
  rw [Num.natAbs_val]
  have h1 := Num.num_lt _ (Num.Plain.sdig s.data.toList).1
  have h2 := Num.sdig_length s.data.toList
  rw [size_toList] at h2
  have := Nat.pow_le_pow_right (show 1 ≤ 10 by decide) h2
  unfold Num.mag; omega

set_option maxRecDepth 100000 in
set_option maxHeartbeats 2000000 in
theorem mul_any (a b : ByteArray) (w : World) (hG : Ground w) (ha : a.size ≤ 4294967296) (hb : b.size ≤ 4294967296) :
    Calls Tryz.prog 90 #[.string a, .string b] w (StrPost w (vS a * vS b)) := by
  have hva := vS_sg a
  have hvb := vS_sg b
  obtain ⟨na, hna⟩ : ∃ na, na = Num.sneg a.data.toList := ⟨_, rfl⟩
  obtain ⟨nb, hnb⟩ : ∃ nb, nb = Num.sneg b.data.toList := ⟨_, rfl⟩
  rw [← hna] at hva
  rw [← hnb] at hvb
  have HNA := Lib.hid hna
  have HNB := Lib.hid hnb
  have HVA := Lib.hid hva
  have HVB := Lib.hid hvb
  have hla := gS_length a ha
  have hlb := gS_length b hb
  clear hna hnb hva hvb
  go_enter Tryz.func90, Tryz.ntmps90
  go_wp2_with fail
  refine (read_any a w ha).mono ?_
  rintro e w1 ⟨bx, cx, rfl, hsx, hbx, hB1⟩
  rw [← HNA.out]
  go_wp2_with fail
  refine (read_any b w1 hb).mono ?_
  rintro e w2 ⟨bY, cy, rfl, hsy, hby, hB2⟩
  rw [← HNB.out]
  have hB : Below w.heap.size w w2 := hB1.trans (hB2.mono hB1.size)
  have hsx2 : Sl w2 bx 0 cx (gS a) := hsx.below hB2 hsx.lt
  have hG2 := hG.below hB
  clear hB1 hB2 hsx
  go_wp2_with fail
  refine (multiply_any w2 bx 0 cx bY 0 cy _ _ (gS a) (gS b) rfl rfl hsx2 hsy (gS_can a).1 (gS_can b).1 (by omega)).mono ?_
  rintro e w3 ⟨Z, rfl, hrow, hzl, hzn, hzg, hB3⟩
  have hBB : Below w.heap.size w w3 := hB.trans (hB3.mono hB.size)
  have hpre := hrow.prefix (Num.trimmed_prefix Z) (cap := (gS a).length + (gS b).length) (by have := (Num.trimmed_prefix Z).length_le; omega) (by omega)
  have hsl := hrow.sl (cap := (gS a).length + (gS b).length) (by omega) (by omega)
  have hv : sg (!(na == nb)) (Num.gval (Num.trimmed Z)) = vS a * vS b := by
    rw [Num.gval_trimmed, hzg, HVA.out, HVB.out]; cases na <;> cases nb <;> simp [sg, Int.neg_mul, Int.mul_neg]
  have HV := Lib.hid hv
  have HZL := Lib.hid hzl
  clear hv hzl hzg hrow
  go_wp2_with fail
  refine (trim_any w3 _ 0 _ _ Z HZL.out hsl).mono ?_
  rintro e w4 ⟨rfl, rfl⟩
  go_wp2_with fail
  refine (write_row (!(na == nb)) w w3 (hG.below hBB) hBB _ _ _ hpre (Num.Can.trimmed hzn) HV.out).mono ?_
  rintro e w4 ⟨rfl, hB4⟩
  go_wp2_with fail
  go_ret
  exact ⟨rfl, hB4⟩

end Go.Proofs.YtahnkmkmoalbhaaGreatDoor

/- integer.Div: the walk by contracts. -/
namespace Go.Proofs.YtahnkmkmoalbhaaGreatDoor
open Go.RowKit

theorem fdiv_unique {a b q r : Int} (h : a = q * b + r) (hb : (0 < b ∧ 0 ≤ r ∧ r < b) ∨ (b < 0 ∧ b < r ∧ r ≤ 0)) : Int.fdiv a b = q ∧ Int.fmod a b = r := by
  have hq : Int.fdiv a b = q := by
    rcases hb with ⟨h0, h1, h2⟩ | ⟨h0, h1, h2⟩
    · rw [Int.fdiv_eq_ediv_of_nonneg _ (by omega)]
      have := (Int.ediv_emod_unique (a := a) (b := b) (r := r) (q := q) h0).2 ⟨by rw [h, Int.mul_comm]; omega, h1, h2⟩
      exact this.1
    · rw [← Int.neg_fdiv_neg, Int.fdiv_eq_ediv_of_nonneg _ (by omega)]
      have := (Int.ediv_emod_unique (a := -a) (b := -b) (r := -r) (q := q) (by omega)).2 ⟨by rw [h, Int.mul_comm q b, Int.neg_mul]; omega, by omega, by omega⟩
      exact this.1
  refine ⟨hq, ?_⟩
  have := Int.fmod_add_mul_fdiv a b
  rw [hq, Int.mul_comm] at this; omega

/-- what Div leaves, at a divisor that is not 0 -/
def DivPost (w : World) (a b : Int) (e : Ending) (w' : World) : Prop :=
  e = .returned (.tuple #[.string (cS (Int.fdiv a b)), .string (cS (Int.fmod a b)), .int .i64 0]) ∧ Below w.heap.size w w'

theorem grps_nil {s : ByteArray} : (gS s).length = 0 ↔ vS s = 0 := by
  have h1 := gS_val s
  have h2 := Num.gval_eq_zero (gS_can s)
  constructor
  · intro h
    have := h2.2 (List.eq_nil_of_length_eq_zero h)
    omega
  · intro h
    have := h2.1 (by rw [h1, h]; rfl)
    rw [this]; rfl

/-- quotient and remainder of the values: the same sign -/
theorem div_same {A Bv : Int} {n : Bool} {X Y Q R : Int} (hA : A = sg n X) (hB : Bv = sg n Y) (hx : X = Q * Y + R) (h0 : 0 ≤ R) (h1 : R < Y) :
    sg false Q = Int.fdiv A Bv ∧ sg n R = Int.fmod A Bv := by
  have := fdiv_unique (a := A) (b := Bv) (q := sg false Q) (r := sg n R)
    (by rw [hA, hB, hx]; cases n
        · simp [sg]
        · simp only [sg, if_true, Bool.false_eq_true, if_false]; rw [Int.mul_neg]; omega)
    (by rw [hB]; cases n
        · left; simp [sg]; omega
        · right; simp [sg]; omega)
  exact ⟨this.1.symm, this.2.symm⟩
/-- other signs, no remainder -/
theorem div_exact {A Bv : Int} {na nb : Bool} {X Y Q R : Int} (hA : A = sg na X) (hB : Bv = sg nb Y) (hx : X = Q * Y + R) (h0 : R = 0) (h1 : R < Y) (hc : na ≠ nb) :
    sg true Q = Int.fdiv A Bv ∧ sg nb R = Int.fmod A Bv := by
  have := fdiv_unique (a := A) (b := Bv) (q := sg true Q) (r := sg nb R)
    (by rw [hA, hB, hx]
        cases na <;> cases nb <;> simp only [ne_eq, not_true_eq_false] at hc <;> simp only [sg, if_true, Bool.false_eq_true, if_false, Int.neg_mul, Int.mul_neg] <;> omega)
    (by rw [hB]; cases nb
        · left; simp [sg]; omega
        · right; simp [sg]; omega)
  exact ⟨this.1.symm, this.2.symm⟩
/-- other signs, with a remainder -/
theorem div_corrected {A Bv : Int} {na nb : Bool} {X Y Q R : Int} (hA : A = sg na X) (hB : Bv = sg nb Y) (hx : X = Q * Y + R) (h0 : 0 < R) (h1 : R < Y) (hc : na ≠ nb) :
    sg true (Q + 1) = Int.fdiv A Bv ∧ sg nb (Y - R) = Int.fmod A Bv := by
  have := fdiv_unique (a := A) (b := Bv) (q := sg true (Q + 1)) (r := sg nb (Y - R))
    (by rw [hA, hB, hx]
        cases na <;> cases nb <;> simp only [ne_eq, not_true_eq_false] at hc <;> simp only [sg, if_true, Bool.false_eq_true, if_false, Int.neg_mul, Int.mul_neg, Int.add_mul] <;> omega)
    (by rw [hB]; cases nb
        · left; simp [sg]; omega
        · right; simp [sg]; omega)
  exact ⟨this.1.symm, this.2.symm⟩

set_option maxRecDepth 100000 in
set_option maxHeartbeats 4000000 in
theorem div_any (a b : ByteArray) (w : World) (hG : Ground w) (ha : a.size ≤ 4294967296) (hb : b.size ≤ 4294967296) (h0 : vS b ≠ 0) :
    Calls Tryz.prog 89 #[.string a, .string b] w (DivPost w (vS a) (vS b)) := by
  have hva := vS_sg a
  have hvb := vS_sg b
  obtain ⟨na, hna⟩ : ∃ na, na = Num.sneg a.data.toList := ⟨_, rfl⟩
  obtain ⟨nb, hnb⟩ : ∃ nb, nb = Num.sneg b.data.toList := ⟨_, rfl⟩
  rw [← hna] at hva
  rw [← hnb] at hvb
  have hla := gS_length a ha
  have hlb := gS_length b hb
  have ga0 := Num.gval_nonneg (gS_can a).1
  have hyl : (gS b).length ≠ 0 := fun h => h0 (grps_nil.1 h)
  have gb0 := Num.gval_pos (gS_can b) (by intro h; rw [h] at hyl; exact hyl rfl)
  have hyb : (((gS b).length : Int) == 0) = false := by rw [beq_eq_false_iff_ne]; omega
  have HNA := Lib.hid hna
  have HNB := Lib.hid hnb
  have HVA := Lib.hid hva
  have HVB := Lib.hid hvb
  clear hna hnb hva hvb h0
  go_enter Tryz.func89, Tryz.ntmps89
  go_wp2_with fail
  refine (read_any a w ha).mono ?_
  rintro e w1 ⟨bx, cx, rfl, hsx, hbx, hB1⟩
  rw [← HNA.out]
  go_wp2_with fail
  refine (read_any b w1 hb).mono ?_
  rintro e w2 ⟨bY, cy, rfl, hsy, hby, hB2⟩
  rw [← HNB.out]
  have hB : Below w.heap.size w w2 := hB1.trans (hB2.mono hB1.size)
  have hsx2 : Sl w2 bx 0 cx (gS a) := hsx.below hB2 hsx.lt
  have hG2 := hG.below hB
  clear hB1 hB2 hsx
  go_wp2_with fail
  refine (divide_any w2 bx 0 cx bY 0 cy _ _ (gS a) (gS b) rfl rfl hsx2 hsy (gS_can a) (gS_can b) hyl (by omega)).mono ?_
  rintro e w3 ⟨qs, rs, qa, qcap, rb, ro, rcap, rfl, hqc, hrc, hx, hlt, hqs, hrs, hql, hrl, hB3⟩
  have hBB : Below w.heap.size w w3 := hB.trans (hB3.mono hB.size)
  have hG3 := hG.below hBB
  have hr0 := Num.gval_nonneg hrc.1
  by_cases hc : na = nb
  · subst hc
    have hvv := div_same HVA.out HVB.out hx hr0 hlt
    have HVV := Lib.hid hvv
    have HQS := Lib.hid hqs
    clear hvv hx hlt hqs
    go_wp2_with fail
    refine (write_any false w3 hG3 qa qcap qs HQS.out hqc (by omega)).mono ?_
    rintro e w4 ⟨rfl, hB4⟩
    have hB' := hBB.trans (hB4.mono hBB.size)
    rw [HVV.out.1]
    go_wp2_with fail
    refine (write_any na w4 (hG.below hB') (some ⟨rb, ro, none⟩) rcap rs (fun h => ⟨rb, ro, rfl, hrs.below hB4 hrs.lt⟩) hrc (by omega)).mono ?_
    rintro e w5 ⟨rfl, hB5⟩
    rw [HVV.out.2]
    go_wp2_with fail
    go_ret3
    exact ⟨rfl, hB'.trans (hB5.mono hB'.size)⟩
  · have hbb : (na == nb) = false := by simpa using hc
    by_cases hr : rs.length = 0
    · obtain rfl : rs = [] := List.eq_nil_of_length_eq_zero hr
      have hvv := div_exact HVA.out HVB.out hx rfl hlt hc
      have HVV := Lib.hid hvv
      have HQS := Lib.hid hqs
      clear hvv hx hlt hqs hr
      go_wp2_with fail
      refine (write_any true w3 hG3 qa qcap qs HQS.out hqc (by omega)).mono ?_
      rintro e w4 ⟨rfl, hB4⟩
      have hB' := hBB.trans (hB4.mono hBB.size)
      rw [HVV.out.1]
      go_wp2_with fail
      refine (write_nil nb w4 (some ⟨rb, ro, none⟩) rcap).mono ?_
      rintro e w5 ⟨rfl, hB5⟩
      rw [HVV.out.2]
      go_wp2_with fail
      go_ret3
      exact ⟨rfl, hB'.trans (hB5.mono hB'.size)⟩
    · have hr1 : 0 < rs.length := by omega
      have hrpos := Num.gval_pos hrc (by rintro rfl; simp at hr)
      have hvv := div_corrected HVA.out HVB.out hx hrpos hlt hc
      have hq0 := Num.gval_nonneg hqc.1
      obtain ⟨q2, hq2⟩ : ∃ q2, q2 = Num.groups (Num.gval qs + 1) := ⟨_, rfl⟩
      obtain ⟨r2, hr2⟩ : ∃ r2, r2 = Num.groups (Num.gval (gS b) - Num.gval rs) := ⟨_, rfl⟩
      have hq2c : Num.Can q2 := by rw [hq2]; exact Num.Can.groups _
      have hr2c : Num.Can r2 := by rw [hr2]; exact Num.Can.groups _
      have hq2g : Num.gval q2 = Num.gval qs + 1 * Num.gval [1] := by rw [hq2, Num.gval_groups (by omega), Num.gval_one]; omega
      have hr2g : Num.gval r2 = Num.gval (gS b) + -1 * Num.gval rs := by rw [hr2, Num.gval_groups (by omega)]; omega
      have hvq : sg true (Num.gval q2) = Int.fdiv (vS a) (vS b) := by rw [hq2g, Num.gval_one, ← hvv.1]; simp
      have hvr : sg nb (Num.gval r2) = Int.fmod (vS a) (vS b) := by
        rw [hr2g, ← hvv.2, show Num.gval (gS b) + -1 * Num.gval rs = Num.gval (gS b) - Num.gval rs by omega]
      have HQ2 := Lib.hid hq2g
      have HR2 := Lib.hid hr2g
      have HVQ := Lib.hid hvq
      have HVR := Lib.hid hvr
      have HQS := Lib.hid hqs
      clear hvv hx hlt hqs hq2 hr2 hq2g hr2g hvq hvr
      go_wp2_with fail
      obtain ⟨W4, hW4⟩ : ∃ W4, W4 = w3.alloc (.cells #[.int .i64 1] 3) := ⟨_, rfl⟩
      have hB4 : Below w3.heap.size w3 W4 := by rw [hW4]; exact (Below.refl _ _).alloc (Nat.le_refl _) _
      have hs4 : Sl W4 w3.heap.size 0 1 [1] := by rw [hW4]; exact one_sl w3 1
      rw [← hW4]
      clear hW4
      refine (combine_any 1 W4 qa qcap w3.heap.size 0 1 _ 1 qs [1] q2 rfl rfl (fun h => (HQS.out h).imp fun b h => h.imp fun o h => ⟨h.1, h.2.below hB4 h.2.lt⟩) hs4 hqc.1 (Num.Norm.one (by decide) (by decide)) (.inl rfl) (by omega) hq2c HQ2.out).mono ?_
      rintro e w5 ⟨b5, c5, rfl, hs5, hb5, hB5⟩
      have hB35 : Below w3.heap.size w3 w5 := hB4.trans (hB5.mono hB4.size)
      clear hs4
      go_wp2_with fail
      refine (combine_any (-1) w5 (some ⟨bY, 0, none⟩) cy rb ro rcap _ _ (gS b) rs r2 rfl rfl (fun h => ⟨bY, 0, rfl, (hsy.below hB3 hsy.lt).below hB35 (Nat.lt_of_lt_of_le hsy.lt hB3.size)⟩) (hrs.below hB35 hrs.lt) (gS_can b).1 hrc.1 (.inr rfl) (by omega) hr2c HR2.out).mono ?_
      rintro e w6 ⟨b6, c6, rfl, hs6, hb6, hB6⟩
      have hB6' : Below w.heap.size w w6 := (hBB.trans (hB35.mono hBB.size)).trans (hB6.mono (hBB.trans (hB35.mono hBB.size)).size)
      go_wp2_with fail
      refine (write_any true w6 (hG.below hB6') _ c5 q2 (fun _ => ⟨b5, 0, rfl, hs5.below hB6 hs5.lt⟩) hq2c (by have := hs5.le; have := hs5.max; omega)).mono ?_
      rintro e w7 ⟨rfl, hB7⟩
      rw [HVQ.out]
      have hB7' := hB6'.trans (hB7.mono hB6'.size)
      go_wp2_with fail
      refine (write_row nb w w7 (hG.below hB7') hB7' b6 c6 r2 (hs6.below hB7 hs6.lt) hr2c HVR.out).mono ?_
      rintro e w8 ⟨rfl, hB8⟩
      go_wp2_with fail
      go_ret3
      exact ⟨rfl, hB8⟩
end Go.Proofs.YtahnkmkmoalbhaaGreatDoor

/- integer.Power: the walk by contracts. -/
namespace Go.Proofs.YtahnkmkmoalbhaaGreatDoor
open Go.RowKit

theorem natAbs_pow (x : Int) (m : Nat) : (x ^ m).natAbs = x.natAbs ^ m := Int.natAbs_pow x m

end Go.Proofs.YtahnkmkmoalbhaaGreatDoor

/- integer.quotients, its closure, and Gcd: a range over a function. -/
namespace Go.Proofs.YtahnkmkmoalbhaaGreatDoor
open Go.RowKit Go.Shelf

attribute [local go_sem] Oper.semAt_some

/-- whatever slices of numbers lay lie as they lay -/
def Kept (A B : World) : Prop := ∀ b o cap zs, Sl A b o cap zs → Sl B b o cap zs

theorem Kept.trans {A B C : World} (h : Kept A B) (k : Kept B C) : Kept A C := fun _ _ _ _ hs => k _ _ _ _ (h _ _ _ _ hs)
end Go.Proofs.YtahnkmkmoalbhaaGreatDoor

/- the laws' own functions: compare, Great, great, awake. -/
namespace Go.Proofs.YtahnkmkmoalbhaaGreatDoor
open Go.RowKit

/-- some string is longer than 60 bytes -/
def long (ss : List ByteArray) : Bool := ss.any fun s => decide (60 < s.size)

theorem cS_can (z : Int) : isCan (cS z) = true := by unfold isCan; rw [vS_cS]; simp
theorem vS_nil : vS ⟨#[]⟩ = 0 := by decide +kernel
theorem cS_zero : cS 0 = ⟨#[]⟩ := by decide +kernel
/-! ### The contracts, by values -/
/-- a number of at most k digits -/
def Cap (k : Nat) (z : Int) : Prop := z.natAbs < 10 ^ k
theorem Cap.add {k : Nat} {x y : Int} (hx : Cap k x) (hy : Cap k y) : Cap (k + 1) (x + y) := by
  unfold Cap at *; rw [Nat.pow_succ]; omega
theorem Cap.sub {k : Nat} {x y : Int} (hx : Cap k x) (hy : Cap k y) : Cap (k + 1) (x - y) := by
  unfold Cap at *; rw [Nat.pow_succ]; omega
theorem Cap.neg {k : Nat} {x : Int} (hx : Cap k x) : Cap k (-x) := by unfold Cap at *; omega
theorem Cap.mono {k l : Nat} {x : Int} (hx : Cap k x) (h : k ≤ l) : Cap l x := Nat.lt_of_lt_of_le hx (Nat.pow_le_pow_right (by decide) h)
theorem Cap.mul {k l : Nat} {x y : Int} (hx : Cap k x) (hy : Cap l y) : Cap (k + l) (x * y) := by
  unfold Cap at *
  rw [Int.natAbs_mul, Nat.pow_add]
  exact Nat.mul_lt_mul'' hx hy
theorem Cap.size {k : Nat} {z : Int} (h : Cap k z) (hk : k ≤ 4294967294) : (cS z).size ≤ 4294967295 := by have := cS_size h; omega
theorem Cap.of {s : ByteArray} {k : Nat} {x : Int} (h : s.size ≤ k) (hx : vS s = x) : Cap k x := by
  have := vS_lt s
  rw [hx] at this
  exact Cap.mono this h
theorem le_big {n : Nat} (h : n ≤ 4294967295) : n ≤ 4294967296 := Nat.le_succ_of_le h

theorem add_v {a b : ByteArray} {x y z : Int} (w : World) (hG : Ground w) (ha : a.size ≤ 4294967295) (hb : b.size ≤ 4294967295) (hx : vS a = x) (hy : vS b = y) (hz : x + y = z) :
    Calls Tryz.prog 35 #[.string a, .string b] w (StrPost w z) := by rw [← hz, ← hx, ← hy]; exact add_any a b w hG (le_big ha) (le_big hb)
theorem mul_v {a b : ByteArray} {x y z : Int} (w : World) (hG : Ground w) (ha : a.size ≤ 4294967295) (hb : b.size ≤ 4294967295) (hx : vS a = x) (hy : vS b = y) (hz : x * y = z) :
    Calls Tryz.prog 90 #[.string a, .string b] w (StrPost w z) := by rw [← hz, ← hx, ← hy]; exact mul_any a b w hG (le_big ha) (le_big hb)
theorem canonical_v {a : ByteArray} {x z : Int} (w : World) (ha : a.size ≤ 4294967295) (hx : vS a = x) (hz : x = z) :
    Calls Tryz.prog 73 #[.string a] w fun e w' => e = .returned (.string (cS z)) ∧ w = w' := by rw [← hz, ← hx]; exact canonical_any a w (le_big ha)
theorem neg_v {a : ByteArray} {x z : Int} (w : World) (ha : a.size ≤ 4294967295) (hx : vS a = x) (hz : -x = z) :
    Calls Tryz.prog 57 #[.string a] w fun e w' => e = .returned (.string (cS z)) ∧ w = w' := by rw [← hz, ← hx]; exact neg_any a w (le_big ha)
theorem div_v {a b : ByteArray} {x y q r : Int} (w : World) (hG : Ground w) (ha : a.size ≤ 4294967295) (hb : b.size ≤ 4294967295) (hx : vS a = x) (hy : vS b = y) (h0 : y ≠ 0) (hq : Int.fdiv x y = q) (hr : Int.fmod x y = r) :
    Calls Tryz.prog 89 #[.string a, .string b] w fun e w' => e = .returned (.tuple #[.string (cS q), .string (cS r), .int .i64 0]) ∧ Below w.heap.size w w' := by
  rw [← hq, ← hr, ← hx, ← hy]; exact div_any a b w hG (le_big ha) (le_big hb) (by rw [hy]; exact h0)

end Go.Proofs.YtahnkmkmoalbhaaGreatDoor

/- The reference implementation of layer 1: digits, Canonical, Check, Neg, Print, Parse: walks. -/
namespace Go.Proofs.YtahnkmkmoalbhaaGreatDoor
open Go.RowKit

theorem split_good' {l d : List UInt8} {ng : Bool} (h : (ng, d) = Num.cut l) (hd : d.all Num.isDig = true) : Num.sdig l = Num.strip d := by
  unfold Num.sdig; rw [← h]; simp only [hd]; rfl
theorem sneg_of {l d : List UInt8} {ng : Bool} (h : (ng, d) = Num.cut l) : Num.sneg l = (ng && !(Num.sdig l).isEmpty) := by
  unfold Num.sneg; rw [← h]

def strSz : Value → Nat | .string s => s.size | _ => 0

/-- the three ways in which a string begins -/
theorem cut_ways (s : ByteArray) : (s.size = 0 ∧ Num.cut s.data.toList = (false, s.data.toList)) ∨
    (∃ h : 0 < s.size, s[0]'h = 45 ∧ Num.cut s.data.toList = (true, (s.extract 1 s.size).data.toList)) ∨
    (∃ h : 0 < s.size, s[0]'h ≠ 45 ∧ Num.cut s.data.toList = (false, s.data.toList)) := by
  by_cases h0 : 0 < s.size
  · have hl : 0 < s.data.toList.length := by rw [size_toList]; exact h0
    have hb := byte_at s 0 h0 hl
    by_cases h : s[0]'h0 = 45
    · refine .inr (.inl ⟨h0, h, ?_⟩)
      unfold Num.cut
      rw [if_pos, Lib.extract_to_end]
      · simp
      · rw [List.head?_eq_getElem?, List.getElem?_eq_getElem hl, hb, h]
    · refine .inr (.inr ⟨h0, h, ?_⟩)
      unfold Num.cut
      rw [if_neg]
      rw [List.head?_eq_getElem?, List.getElem?_eq_getElem hl, hb]
      simpa using h
  · refine .inl ⟨by omega, ?_⟩
    unfold Num.cut
    rw [if_neg]
    have : s.data.toList = [] := List.eq_nil_of_length_eq_zero (by rw [size_toList]; omega)
    rw [this]; simp

theorem strip_at_zero {E : ByteArray} (h : 0 < E.size) (h0 : E[0]'h = 48) : Num.strip (E.extract 1 E.size).data.toList = Num.strip E.data.toList := by
  have hl : 0 < E.data.toList.length := by rw [size_toList]; exact h
  have hb := byte_at E 0 h hl
  rw [Lib.extract_to_end]
  cases he : E.data.toList with
  | nil => rw [he] at hl; simp at hl
  | cons c r =>
    have : c = 48 := by
      have := hb
      simp only [he, List.getElem_cons_zero] at this
      rw [this, h0]
    subst this
    simp [Num.strip]
theorem strip_at {E : ByteArray} (h : 0 < E.size) (h0 : E[0]'h ≠ 48) : Num.strip E.data.toList = E.data.toList := by
  have hl : 0 < E.data.toList.length := by rw [size_toList]; exact h
  have hb := byte_at E 0 h hl
  cases he : E.data.toList with
  | nil => rfl
  | cons c r =>
    have : c ≠ 48 := by
      have := hb
      simp only [he, List.getElem_cons_zero] at this
      rw [this]; exact h0
    simp [Num.strip, this]
theorem strip_empty {E : ByteArray} (h : E.size = 0) : Num.strip E.data.toList = E.data.toList := by
  have : E.data.toList = [] := List.eq_nil_of_length_eq_zero (by rw [size_toList]; omega)
  rw [this]; rfl
theorem ofToList (E : ByteArray) : (ByteArray.mk E.data.toList.toArray) = E := by cases E; rfl
theorem isEmpty_size (E : ByteArray) : E.data.toList.isEmpty = decide (E.size = 0) := by
  rw [Bool.eq_iff_iff, decide_eq_true_iff, List.isEmpty_iff, ← List.length_eq_zero_iff, size_toList]
/-- what digits returns at a string -/
def DigPost (s : ByteArray) (w : World) (e : Ending) (w' : World) : Prop := e = .returned (.tuple #[.string ⟨(Num.sdig s.data.toList).toArray⟩, .bool (Num.sneg s.data.toList)]) ∧ w = w'

theorem dig_bad {s : ByteArray} {ng : Bool} {d : List UInt8} (h : (ng, d) = Num.cut s.data.toList) (hd : d.all Num.isDig = false) {w : World} : DigPost s w (.returned (.tuple #[.string ⟨#[]⟩, .bool false])) w := by
  have := split_bad h hd
  unfold DigPost; rw [this.1, this.2]; exact ⟨rfl, rfl⟩
theorem dig_good {s E : ByteArray} {ng : Bool} {d : List UInt8} (h : (ng, d) = Num.cut s.data.toList) (hd : d.all Num.isDig = true) (hE : Num.strip d = E.data.toList) {w : World} {b : Bool} (hb : b = (ng && !decide (E.size = 0))) :
    DigPost s w (.returned (.tuple #[.string E, .bool b])) w := by
  have h1 := split_good' h hd
  have h2 := sneg_of h
  unfold DigPost
  rw [h2, h1, hE, ofToList, hb, isEmpty_size]; exact ⟨rfl, rfl⟩

set_option maxHeartbeats 1000000 in
theorem digits_any (s : ByteArray) (w : World) (hs : s.size ≤ maxLen) :
    Calls Tryz.prog 85 #[.string s] w (DigPost s w) := by
  have hs' : s.size ≤ 9223372036854775807 := by unfold maxLen at hs; omega
  rcases cut_ways s with ⟨h0, hc⟩ | ⟨h0, h1, hc⟩ | ⟨h0, h1, hc⟩
  · have h0' : ¬ 0 < s.size := by omega
    have HC := Lib.hid hc.symm
    clear hc h0
    go_enter Tryz.func85, Tryz.ntmps85
    go_wp2_with fail
    go_loop [6] (fun i => ∃ k : Nat, k ≤ s.size ∧ i = .int .i64 k ∧ (s.data.toList.take k).all Num.isDig = true) (fun i => s.size - (intOf i).toNat)
    case atStart => exact ⟨0, Nat.zero_le _, rfl, rfl⟩
    case round =>
      obtain ⟨k, hk, rfl, ha⟩ := hrel
      have HA := Lib.hid ha
      clear ha
      by_cases hlt : k < s.size
      · have hlt' : k < s.data.toList.length := by rw [size_toList]; exact hlt
        have HB := Lib.hid (byte_at s k hlt hlt')
        by_cases b1 : ((s[k]'hlt).toNat : Int) < 48
        · have H := Lib.hid (dig_bad HC.out (not_all_at hlt' (.inl (by rw [HB.out]; exact b1))) (w := w))
          clear HB hlt'
          go_wp2
          go_ret2
          exact H.out
        · by_cases b2 : 57 < ((s[k]'hlt).toNat : Int)
          · have H := Lib.hid (dig_bad HC.out (not_all_at hlt' (.inr (by rw [HB.out]; exact b2))) (w := w))
            clear HB hlt'
            go_wp2
            go_ret2
            exact H.out
          · have H := Lib.hid (all_take_succ HA.out hlt' (by rw [HB.out]; exact b1) (by rw [HB.out]; exact b2))
            clear HB hlt'
            go_wp2
            go_round
            case rel => exact ⟨k + 1, by omega, by go_num, H.out⟩
            case measure => simp [intOf]; omega
      · have ha : s.data.toList.all Num.isDig = true := by have := HA.out; rw [List.take_of_length_le (by rw [size_toList]; omega)] at this; exact this
        have HAll := Lib.hid ha
        clear ha HA
        go_wp2_with fail
        go_loop [4] (fun v => ∃ E : ByteArray, v = .string E ∧ E.size ≤ s.size ∧ Num.strip s.data.toList = Num.strip E.data.toList) (fun v => strSz v)
        case atStart => exact ⟨s, rfl, Nat.le_refl _, rfl⟩
        case round =>
          obtain ⟨E, rfl, hEs, hE⟩ := hrel
          have HE := Lib.hid hE
          clear hE
          by_cases he : 0 < E.size
          · by_cases hz : E[0]'he = 48
            · have hzb : (((E[0]'he).toNat : Int) == 48) = true := by rw [hz]; rfl
              have H := Lib.hid (HE.out.trans (strip_at_zero he hz).symm)
              have hsz : (E.extract 1 E.size).size = E.size - 1 := by simp
              have HSZ := Lib.hid hsz
              clear hz hsz
              go_wp2
              go_round
              case rel => exact ⟨_, rfl, by rw [HSZ.out]; omega, H.out⟩
              case measure => simp [strSz]; omega
            · have hzb : (((E[0]'he).toNat : Int) == 48) = false := by
                rw [beq_eq_false_iff_ne]; intro h; exact hz (UInt8.toNat_inj.1 (by show _ = 48; omega))
              have H := Lib.hid (dig_good HC.out HAll.out (HE.out.trans (strip_at he hz)) (w := w) (b := false) (by simp))
              clear hz
              go_wp2
              go_ret2
              exact H.out
          · have H := Lib.hid (dig_good HC.out HAll.out (HE.out.trans (strip_empty (by omega))) (w := w) (b := false) (by simp [show E.size = 0 by omega]))
            go_wp2
            go_ret2
            exact H.out
  · have hb : (((s[0]'h0).toNat : Int) == 45) = true := by rw [h1]; rfl
    obtain ⟨D, hD⟩ : ∃ D, s.extract 1 s.size = D := ⟨_, rfl⟩
    rw [hD] at hc
    have hDs : D.size ≤ 9223372036854775807 := by rw [← hD]; simp; omega
    have HC := Lib.hid hc.symm
    clear hc h1
    go_enter Tryz.func85, Tryz.ntmps85
    go_wp2_with fail
    clear hD hb
    go_wp2_with fail
    go_loop [6] (fun i => ∃ k : Nat, k ≤ D.size ∧ i = .int .i64 k ∧ (D.data.toList.take k).all Num.isDig = true) (fun i => D.size - (intOf i).toNat)
    case atStart => exact ⟨0, Nat.zero_le _, rfl, rfl⟩
    case round =>
      obtain ⟨k, hk, rfl, ha⟩ := hrel
      have HA := Lib.hid ha
      clear ha
      by_cases hlt : k < D.size
      · have hlt' : k < D.data.toList.length := by rw [size_toList]; exact hlt
        have HB := Lib.hid (byte_at D k hlt hlt')
        by_cases b1 : ((D[k]'hlt).toNat : Int) < 48
        · have H := Lib.hid (dig_bad HC.out (not_all_at hlt' (.inl (by rw [HB.out]; exact b1))) (w := w))
          clear HB hlt'
          go_wp2
          go_ret2
          exact H.out
        · by_cases b2 : 57 < ((D[k]'hlt).toNat : Int)
          · have H := Lib.hid (dig_bad HC.out (not_all_at hlt' (.inr (by rw [HB.out]; exact b2))) (w := w))
            clear HB hlt'
            go_wp2
            go_ret2
            exact H.out
          · have H := Lib.hid (all_take_succ HA.out hlt' (by rw [HB.out]; exact b1) (by rw [HB.out]; exact b2))
            clear HB hlt'
            go_wp2
            go_round
            case rel => exact ⟨k + 1, by omega, by go_num, H.out⟩
            case measure => simp [intOf]; omega
      · have ha : D.data.toList.all Num.isDig = true := by have := HA.out; rw [List.take_of_length_le (by rw [size_toList]; omega)] at this; exact this
        have HAll := Lib.hid ha
        clear ha HA
        go_wp2_with fail
        go_loop [4] (fun v => ∃ E : ByteArray, v = .string E ∧ E.size ≤ D.size ∧ Num.strip D.data.toList = Num.strip E.data.toList) (fun v => strSz v)
        case atStart => exact ⟨D, rfl, Nat.le_refl _, rfl⟩
        case round =>
          obtain ⟨E, rfl, hEs, hE⟩ := hrel
          have HE := Lib.hid hE
          clear hE
          by_cases he : 0 < E.size
          · by_cases hz : E[0]'he = 48
            · have hzb : (((E[0]'he).toNat : Int) == 48) = true := by rw [hz]; rfl
              have H := Lib.hid (HE.out.trans (strip_at_zero he hz).symm)
              have hsz : (E.extract 1 E.size).size = E.size - 1 := by simp
              have HSZ := Lib.hid hsz
              clear hz hsz
              go_wp2
              go_round
              case rel => exact ⟨_, rfl, by rw [HSZ.out]; omega, H.out⟩
              case measure => simp [strSz]; omega
            · have hzb : (((E[0]'he).toNat : Int) == 48) = false := by
                rw [beq_eq_false_iff_ne]; intro h; exact hz (UInt8.toNat_inj.1 (by show _ = 48; omega))
              have H := Lib.hid (dig_good HC.out HAll.out (HE.out.trans (strip_at he hz)) (w := w) (b := true) (by simp [show E.size ≠ 0 by omega]))
              clear hz
              go_wp2
              go_ret2
              exact H.out
          · have H := Lib.hid (dig_good HC.out HAll.out (HE.out.trans (strip_empty (by omega))) (w := w) (b := false) (by simp [show E.size = 0 by omega]))
            go_wp2
            go_ret2
            exact H.out
  · have hb : (((s[0]'h0).toNat : Int) == 45) = false := by
      rw [beq_eq_false_iff_ne]; intro h; exact h1 (UInt8.toNat_inj.1 (by show _ = 45; omega))
    have HC := Lib.hid hc.symm
    clear hc h1
    go_enter Tryz.func85, Tryz.ntmps85
    go_wp2_with fail
    go_loop [6] (fun i => ∃ k : Nat, k ≤ s.size ∧ i = .int .i64 k ∧ (s.data.toList.take k).all Num.isDig = true) (fun i => s.size - (intOf i).toNat)
    case atStart => exact ⟨0, Nat.zero_le _, rfl, rfl⟩
    case round =>
      obtain ⟨k, hk, rfl, ha⟩ := hrel
      have HA := Lib.hid ha
      clear ha
      by_cases hlt : k < s.size
      · have hlt' : k < s.data.toList.length := by rw [size_toList]; exact hlt
        have HB := Lib.hid (byte_at s k hlt hlt')
        by_cases b1 : ((s[k]'hlt).toNat : Int) < 48
        · have H := Lib.hid (dig_bad HC.out (not_all_at hlt' (.inl (by rw [HB.out]; exact b1))) (w := w))
          clear HB hlt'
          go_wp2
          go_ret2
          exact H.out
        · by_cases b2 : 57 < ((s[k]'hlt).toNat : Int)
          · have H := Lib.hid (dig_bad HC.out (not_all_at hlt' (.inr (by rw [HB.out]; exact b2))) (w := w))
            clear HB hlt'
            go_wp2
            go_ret2
            exact H.out
          · have H := Lib.hid (all_take_succ HA.out hlt' (by rw [HB.out]; exact b1) (by rw [HB.out]; exact b2))
            clear HB hlt'
            go_wp2
            go_round
            case rel => exact ⟨k + 1, by omega, by go_num, H.out⟩
            case measure => simp [intOf]; omega
      · have ha : s.data.toList.all Num.isDig = true := by have := HA.out; rw [List.take_of_length_le (by rw [size_toList]; omega)] at this; exact this
        have HAll := Lib.hid ha
        clear ha HA
        go_wp2_with fail
        go_loop [4] (fun v => ∃ E : ByteArray, v = .string E ∧ E.size ≤ s.size ∧ Num.strip s.data.toList = Num.strip E.data.toList) (fun v => strSz v)
        case atStart => exact ⟨s, rfl, Nat.le_refl _, rfl⟩
        case round =>
          obtain ⟨E, rfl, hEs, hE⟩ := hrel
          have HE := Lib.hid hE
          clear hE
          by_cases he : 0 < E.size
          · by_cases hz : E[0]'he = 48
            · have hzb : (((E[0]'he).toNat : Int) == 48) = true := by rw [hz]; rfl
              have H := Lib.hid (HE.out.trans (strip_at_zero he hz).symm)
              have hsz : (E.extract 1 E.size).size = E.size - 1 := by simp
              have HSZ := Lib.hid hsz
              clear hz hsz
              go_wp2
              go_round
              case rel => exact ⟨_, rfl, by rw [HSZ.out]; omega, H.out⟩
              case measure => simp [strSz]; omega
            · have hzb : (((E[0]'he).toNat : Int) == 48) = false := by
                rw [beq_eq_false_iff_ne]; intro h; exact hz (UInt8.toNat_inj.1 (by show _ = 48; omega))
              have H := Lib.hid (dig_good HC.out HAll.out (HE.out.trans (strip_at he hz)) (w := w) (b := false) (by simp))
              clear hz
              go_wp2
              go_ret2
              exact H.out
          · have H := Lib.hid (dig_good HC.out HAll.out (HE.out.trans (strip_empty (by omega))) (w := w) (b := false) (by simp [show E.size = 0 by omega]))
            go_wp2
            go_ret2
            exact H.out

end Go.Proofs.YtahnkmkmoalbhaaGreatDoor

/- The reference implementation of layer 1: Canonical, Neg: walks. -/

namespace Go.Proofs.YtahnkmkmoalbhaaGreatDoor
open Go.RowKit

theorem cS_minus {s : ByteArray} (h : Num.sneg s.data.toList = true) : (ByteArray.mk #[45]) ++ (ByteArray.mk (Num.sdig s.data.toList).toArray) = cS (vS s) := by
  rw [minus_append]
  unfold cS vS
  rw [← Num.joined_val, h]
  unfold Num.joined
  have h2 := Num.sneg_mag h
  have : (Num.sdig s.data.toList).isEmpty = false := by
    rw [List.isEmpty_eq_false_iff]; intro e; unfold Num.mag at h2; rw [e] at h2; simp [Num.num] at h2
  rw [this]; rfl
theorem cS_plus {s : ByteArray} (h : Num.sneg s.data.toList = false) : (ByteArray.mk (Num.sdig s.data.toList).toArray) = cS (vS s) := by
  unfold cS vS
  rw [← Num.joined_val, h]; rfl
theorem cSn_minus {s : ByteArray} (h : Num.sneg s.data.toList = true) : (ByteArray.mk (Num.sdig s.data.toList).toArray) = cS (-(vS s)) := by
  unfold cS vS
  rw [← Num.joined_neg, ← Num.sneg_val, ← Num.sdig_val, h]; rfl
theorem cSn_zero {s : ByteArray} (h : Num.sdig s.data.toList = []) : (ByteArray.mk (Num.sdig s.data.toList).toArray) = cS (-(vS s)) := by
  unfold cS vS
  rw [← Num.joined_neg, ← Num.sdig_val, h]
  unfold Num.joined; simp
theorem cSn_plus {s : ByteArray} (h : Num.sneg s.data.toList = false) (h0 : (Num.sdig s.data.toList).isEmpty = false) : (ByteArray.mk #[45]) ++ (ByteArray.mk (Num.sdig s.data.toList).toArray) = cS (-(vS s)) := by
  rw [minus_append]
  unfold cS vS
  rw [← Num.joined_neg, ← Num.sneg_val, ← Num.sdig_val, h]
  unfold Num.joined; rw [h0]; rfl

set_option maxHeartbeats 400000 in
theorem rCanonical_any (s : ByteArray) (w : World) (hs : s.size ≤ 4294967296) :
    Calls Tryz.prog 81 #[.string s] w fun e w' => e = .returned (.string (cS (vS s))) ∧ w = w' := by
  have hl := sdig_lim hs
  have hm := lim_max hs
  cases hn : Num.sneg s.data.toList
  · have H := Lib.hid (cS_plus hn)
    go_enter Tryz.func81, Tryz.ntmps81
    go_wp2_with fail
    refine (digits_any s w hm).mono ?_
    rintro e w' ⟨rfl, rfl⟩
    rw [hn]
    go_wp2_with fail
    go_ret
    exact ⟨by rw [H.out]; rfl, rfl⟩
  · have H := Lib.hid (cS_minus hn)
    have h0 : ¬ 9223372036854775807 < 1 + (Num.sdig s.data.toList).length := by omega
    go_enter Tryz.func81, Tryz.ntmps81
    go_wp2_with fail
    refine (digits_any s w hm).mono ?_
    rintro e w' ⟨rfl, rfl⟩
    rw [hn]
    go_wp2_with fail
    go_ret
    exact ⟨by rw [H.out]; rfl, rfl⟩

set_option maxHeartbeats 400000 in
theorem rNeg_any (s : ByteArray) (w : World) (hs : s.size ≤ 4294967296) :
    Calls Tryz.prog 58 #[.string s] w fun e w' => e = .returned (.string (cS (- vS s))) ∧ w = w' := by
  have hl := sdig_lim hs
  have hm := lim_max hs
  cases hn : Num.sneg s.data.toList
  · cases h0 : (Num.sdig s.data.toList).isEmpty
    · have H := Lib.hid (cSn_plus hn h0)
      have hz : ¬ 9223372036854775807 < 1 + (Num.sdig s.data.toList).length := by omega
      have h1 : Num.sdig s.data.toList ≠ [] := by simpa using h0
      have hq : (ByteArray.mk (Num.sdig s.data.toList).toArray).toList.isEmpty = false := by rw [Lib.toList_data]; simpa using h1
      have hq2 : ((ByteArray.mk (Num.sdig s.data.toList).toArray).toList == []) = false := by rw [Lib.toList_data]; simpa using h1
      go_enter Tryz.func58, Tryz.ntmps58
      go_wp2_with fail
      refine (digits_any s w hm).mono ?_
      rintro e w' ⟨rfl, rfl⟩
      rw [hn]
      go_wp2_with fail
      go_ret
      exact ⟨by rw [H.out]; rfl, rfl⟩
    · have h1 : Num.sdig s.data.toList = [] := by simpa using h0
      have H := Lib.hid (cSn_zero h1)
      have hq : (ByteArray.mk (Num.sdig s.data.toList).toArray).toList.isEmpty = true := by rw [Lib.toList_data]; simpa using h1
      have hq2 : ((ByteArray.mk (Num.sdig s.data.toList).toArray).toList == []) = true := by rw [Lib.toList_data]; simpa using h1
      clear h1
      go_enter Tryz.func58, Tryz.ntmps58
      go_wp2_with fail
      refine (digits_any s w hm).mono ?_
      rintro e w' ⟨rfl, rfl⟩
      rw [hn]
      go_wp2_with fail
      go_ret
      exact ⟨by rw [H.out]; rfl, rfl⟩
  · have H := Lib.hid (cSn_minus hn)
    go_enter Tryz.func58, Tryz.ntmps58
    go_wp2_with fail
    refine (digits_any s w hm).mono ?_
    rintro e w' ⟨rfl, rfl⟩
    rw [hn]
    go_wp2_with fail
    go_ret
    exact ⟨by rw [H.out]; rfl, rfl⟩

end Go.Proofs.YtahnkmkmoalbhaaGreatDoor

/- The reference implementation of layer 1: Check, Print, Parse: walks. -/
namespace Go.Proofs.YtahnkmkmoalbhaaGreatDoor
open Go.RowKit

set_option maxHeartbeats 400000 in
theorem rCheck_any (s : ByteArray) (w : World) (hs : s.size ≤ 4294967296) :
    Calls Tryz.prog 55 #[.string s] w fun e w' => e = .returned (.int .i64 (chk s)) ∧ w = w' := by
  have hb := beq_toList (cS (vS s)) s
  cases hc : isCan s
  · have H := Lib.hid (show chk s = 1 by unfold chk; rw [hc]; rfl)
    unfold isCan at hc
    rw [hc] at hb
    clear hc
    go_enter Tryz.func55, Tryz.ntmps55
    go_wp2_with (first | (go_at_call 81; refine (rCanonical_any _ _ hs).mono ?_; rintro e w' ⟨rfl, rfl⟩))
    go_ret
    exact ⟨by rw [H.out]; rfl, rfl⟩
  · have H := Lib.hid (show chk s = 0 by unfold chk; rw [hc]; rfl)
    unfold isCan at hc
    rw [hc] at hb
    clear hc
    go_enter Tryz.func55, Tryz.ntmps55
    go_wp2_with (first | (go_at_call 81; refine (rCanonical_any _ _ hs).mono ?_; rintro e w' ⟨rfl, rfl⟩))
    go_ret
    exact ⟨by rw [H.out]; rfl, rfl⟩

end Go.Proofs.YtahnkmkmoalbhaaGreatDoor

/- The reference implementation of layer 1: short, Small, Of, Compare: walks. -/
namespace Go.Proofs.YtahnkmkmoalbhaaGreatDoor
open Go.RowKit

theorem num_take_le (d : List UInt8) (k : Nat) : Num.num (d.take k) ≤ Num.num d := by
  conv => rhs; rw [← List.take_append_drop k d]
  rw [Num.num_append]
  have := Nat.le_mul_of_pos_right (Num.num (d.take k)) (Nat.pow_pos (n := (d.drop k).length) (show 0 < 10 by decide))
  omega
theorem num_take_succ {D : ByteArray} {k : Nat} (h : k < D.size) : Num.num (D.data.toList.take (k + 1)) = 10 * Num.num (D.data.toList.take k) + Num.dv (D[k]'h) := by
  have hl : k < D.data.toList.length := by rw [size_toList]; exact h
  rw [List.take_succ_eq_append_getElem hl, byte_at D k h hl, Num.num_snoc]
theorem dig_at {D : ByteArray} {k : Nat} (h : k < D.size) (ha : D.data.toList.all Num.isDig = true) : 48 ≤ (D[k]'h).toNat ∧ (D[k]'h).toNat ≤ 57 := by
  have hl : k < D.data.toList.length := by rw [size_toList]; exact h
  have := List.all_eq_true.1 ha _ (List.getElem_mem hl)
  rw [byte_at D k h hl] at this
  exact (Num.isDig_iff _).1 this

/-- the digits of a string, as Go's string -/
theorem dig_str (s : ByteArray) : ∃ D : ByteArray, D = ⟨(Num.sdig s.data.toList).toArray⟩ ∧ D.data.toList = Num.sdig s.data.toList ∧ D.data.toList.all Num.isDig = true ∧ D.size ≤ s.size := by
  refine ⟨_, rfl, rfl, (Num.Plain.sdig _).1, ?_⟩
  have := Num.sdig_length s.data.toList
  rw [size_toList] at this
  rw [← size_toList]; exact this

/-- what short returns -/
def shortV (s : ByteArray) : Value := if (Num.sdig s.data.toList).length ≤ 17 then .tuple #[.int .i64 (vS s), .bool true] else .tuple #[.int .i64 0, .bool false]

set_option maxHeartbeats 1000000 in
theorem short_yes (s : ByteArray) (w : World) (hs : s.size ≤ 4294967296) (h17 : (Num.sdig s.data.toList).length ≤ 17) :
    Calls Tryz.prog 113 #[.string s] w fun e w' => e = .returned (.tuple #[.int .i64 (vS s), .bool true]) ∧ w = w' := by
  have hm := lim_max hs
  obtain ⟨D, hD, hDl, hall, hDs⟩ := dig_str s
  have hD17 : D.size ≤ 17 := by rw [← size_toList, hDl]; exact h17
  have hlt := Num.num_lt _ hall
  rw [size_toList] at hlt
  have hlt2 : Num.num D.data.toList < 100000000000000000 := by
    have := Nat.pow_le_pow_right (show 1 ≤ 10 by decide) hD17
    omega
  have hv : vS s = if Num.sneg s.data.toList then -(Num.num D.data.toList : Int) else Num.num D.data.toList := by
    rw [hDl]; rfl
  have HV := Lib.hid hv
  have HD := Lib.hid hD
  have HA := Lib.hid hall
  have HLT := Lib.hid hlt2
  clear hv hD hall hlt hlt2 hDl h17
  obtain ⟨ng, hng⟩ : ∃ ng, Num.sneg s.data.toList = ng := ⟨_, rfl⟩
  go_enter Tryz.func113, Tryz.ntmps113
  go_wp2_with fail
  refine (digits_any s w hm).mono ?_
  rintro e w' ⟨rfl, rfl⟩
  rw [← HD.out, hng]
  have HNG := Lib.hid hng
  clear hng
  go_wp2_with fail
  go_loop [6, 7] (fun nv iv => ∃ k : Nat, k ≤ D.size ∧ iv = .int .i64 k ∧ nv = .int .i64 (Num.num (D.data.toList.take k) : Nat)) (fun _ iv => D.size - (intOf iv).toNat)
  case atStart => exact ⟨0, Nat.zero_le _, rfl, rfl⟩
  case round =>
    obtain ⟨k, hk, rfl, rfl⟩ := hrel
    have hb := num_take_le D.data.toList k
    have hb2 : Num.num (D.data.toList.take k) < 100000000000000000 := by have := HLT.out; omega
    obtain ⟨x, hx⟩ : ∃ x, x = Num.num (D.data.toList.take k) := ⟨_, rfl⟩
    rw [← hx] at hb2 ⊢
    clear hb
    by_cases hlt : k < D.size
    · have hd := dig_at hlt HA.out
      have hsu := num_take_succ hlt
      rw [← hx] at hsu
      have hn : ((Num.num (D.data.toList.take (k + 1)) : Nat) : Int) = 10 * (x : Int) + (((D[k]'hlt).toNat : Int) - 48) := by rw [hsu]; unfold Num.dv; omega
      have HN := Lib.hid hn
      have hd1 : (48 : Int) ≤ ((D[k]'hlt).toNat : Int) := by omega
      have hd2 : ((D[k]'hlt).toNat : Int) ≤ 57 := by omega
      clear hn hsu hx hd
      go_wp2_with fail
      go_round
      case rel => exact ⟨k + 1, by omega, by go_num, by rw [HN.out]⟩
      case measure => simp [intOf]; omega
    · have hx2 : x = Num.num D.data.toList := by rw [hx, List.take_of_length_le (by rw [size_toList]; omega)]
      have HX := Lib.hid hx2
      clear hx hx2
      cases ng
      · have hv : vS s = (x : Int) := by have := HV.out; rw [HNG.out] at this; rw [this, HX.out]; rfl
        have H := Lib.hid hv
        clear hv
        go_wp2_with fail
        go_ret2
        exact ⟨by rw [H.out]; rfl, rfl⟩
      · have hv : vS s = -(x : Int) := by have := HV.out; rw [HNG.out] at this; rw [this, HX.out]; rfl
        have H := Lib.hid hv
        clear hv
        go_wp2_with fail
        go_ret2
        exact ⟨by rw [H.out]; rfl, rfl⟩

set_option maxHeartbeats 1000000 in
theorem short_no (s : ByteArray) (w : World) (hs : s.size ≤ 4294967296) (h17 : 17 < (Num.sdig s.data.toList).length) :
    Calls Tryz.prog 113 #[.string s] w fun e w' => e = .returned (.tuple #[.int .i64 0, .bool false]) ∧ w = w' := by
  have hm := lim_max hs
  go_enter Tryz.func113, Tryz.ntmps113
  go_wp2_with fail
  refine (digits_any s w hm).mono ?_
  rintro e w' ⟨rfl, rfl⟩
  go_wp2_with fail
  go_ret2
  exact ⟨rfl, rfl⟩

theorem short_any (s : ByteArray) (w : World) (hs : s.size ≤ 4294967296) :
    Calls Tryz.prog 113 #[.string s] w fun e w' => e = .returned (shortV s) ∧ w = w' := by
  unfold shortV
  by_cases h : (Num.sdig s.data.toList).length ≤ 17
  · rw [if_pos h]; exact short_yes s w hs h
  · rw [if_neg h]; exact short_no s w hs (by omega)

end Go.Proofs.YtahnkmkmoalbhaaGreatDoor
