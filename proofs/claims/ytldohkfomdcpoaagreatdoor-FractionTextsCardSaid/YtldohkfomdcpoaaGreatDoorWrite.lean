/- integer.write: the walk. -/
import Derived.Test.YtldohkfomdcpoaaGreatDoorRead
import Derived.Lib.AppendStr
import Derived.Lib.BufferRead
import Derived.Lib.ItoaLen
namespace Go.Proofs.YtldohkfomdcpoaaGreatDoor
open Go.RowKit

theorem info_byte : (Tryz.prog.info? 5).map (fun i => (i.zero, i.size, i.bytes)) = some (some (.int .u8 0), 1, 1) := by kernel_rfl

/-- the slice value v owns the bytes l -/
def Txt (w : World) (base : Nat) (v : Value) (l : List UInt8) : Prop := w.ownsRow base 5 1 v l.length (Lib.byteCells l)

def byteRow (c : Nat) : Obj := .cells (madeCells #[.int .u8 0] c) 5
theorem run_makeBytes (c : Nat) (hc : c ≤ 140737488355328) (w : World) :
    (Instr.makeSlice 108 (.int .i64 0) (.int .i64 (c : Int))).run Tryz.prog w = .ok (.slice (some ⟨w.heap.size, 0, none⟩) 0 c) (w.alloc (byteRow c)) := by
  obtain ⟨i0, hi, hz0, hz1, hz2⟩ := info_parts info_byte
  have hr := run_make (P := Tryz.prog) w 108 5 i0 (.int .u8 0) Tryz.underlying108 hi hz0 .i64 .i64 0 c (by omega) (by omega) (by rw [hz2]; omega) (by omega)
  simp only [Int.toNat_natCast] at hr
  rw [hr, hz1]
  simp [byteRow, Value.cells]
theorem Txt.made (w : World) (c : Nat) (hc : c ≤ 140737488355328) {base : Nat} (hb : base ≤ w.heap.size) : Txt (w.alloc (byteRow c)) base (.slice (some ⟨w.heap.size, 0, none⟩) 0 c) [] :=
  World.ownsRow_made w _ c hb (by unfold maxLen; omega) (by simp [size_madeCells])

theorem Txt.kept {w w' : World} {base : Nat} {v : Value} {l : List UInt8} (h : Txt w base v l) (hb : Below w.heap.size w w') : Txt w' base v l := by
  refine World.ownsRow.kept h (grown_of_below hb none) ?_
  cases hv : v.ownBlock with
  | none => exact .inl rfl
  | some b => exact .inr (by simp)
theorem Txt.alloc {w : World} {base : Nat} {v : Value} {l : List UInt8} (h : Txt w base v l) (o : Obj) : Txt (w.alloc o) base v l := World.ownsRow.alloc h o

theorem strCells_eq (s : ByteArray) : Lib.strCells s = Lib.byteCells s.data.toList := rfl

theorem Txt.addString {w : World} {base : Nat} {v : Value} {l : List UInt8} (h : Txt w base v l) (s : ByteArray) (ty : TypeId) (hs : l.length + s.size ≤ 140737488355328) (hb : base ≤ w.heap.size) :
    ∃ v' w', (Builtin.append_ #[108, 9] ty #[v, .string s]).run Tryz.prog w = .ok v' w' ∧ Txt w' base v' (l ++ s.data.toList) ∧ Below base w w' := by
  obtain ⟨i0, hi, hz0, hz1, hz2⟩ := info_parts info_byte
  obtain ⟨v', w', h1, h2, h3, _⟩ := Lib.run_append_own_string (P := Tryz.prog) w base 108 9 ty 5 i0 Tryz.underlying108 Tryz.underlying9 hi hz0 hz1 hz2 v l.length _ h s (by unfold maxLen; omega) hs hb
  refine ⟨v', w', h1, ?_, (Below.refl base w).grown h3 hb (fun k hk => (World.ownsRow.lt h k hk).1)⟩
  unfold Txt
  rw [List.length_append, size_toList, Lib.byteCells_append, ← strCells_eq]
  exact h2

theorem Txt.addByte {w : World} {base : Nat} {v : Value} {l : List UInt8} (h : Txt w base v l) (c : UInt8) (g : Nat) (hg : w.cell? ⟨g, 0, none⟩ = some (.int .u8 c.toNat)) (ty : TypeId) (hs : l.length + 1 ≤ 140737488355328) (hb : base ≤ w.heap.size) :
    ∃ v' w', (Builtin.append_ #[108, 108] ty #[v, .slice (some ⟨g, 0, none⟩) 1 1]).run Tryz.prog w = .ok v' w' ∧ Txt w' base v' (l ++ [c]) ∧ Below base w w' := by
  obtain ⟨i0, hi, hz0, hz1, hz2⟩ := info_parts info_byte
  obtain ⟨v', w', h1, h2, h3, _⟩ := run_append_own (P := Tryz.prog) w base 108 ty 5 i0 (.int .u8 0) 1 1 Tryz.underlying108 hi hz0 hz1 hz2 rfl (by decide) v l.length _ h ⟨g, 0, none⟩ 1 1 [.int .u8 c.toNat] rfl
    (fun j u hj => by
      match j, hj with
      | 0, hj => simp at hj; subst hj; simpa [Addr.add] using hg
      | j + 1, hj => simp at hj)
    (fun u hu => by simp at hu; subst hu; rfl) (by unfold maxLen; omega) (by omega) hb
  refine ⟨v', w', h1, ?_, (Below.refl base w).grown h3 hb (fun k hk => (World.ownsRow.lt h k hk).1)⟩
  unfold Txt
  rw [List.length_append, Lib.byteCells_append]
  exact h2

theorem wp_addString {w : World} {ops : Array Oper} {rest : List Oper} {o : Oper} {a : Act} {Q : Exit → Act → World → Prop} (hgd : o.guard = none) (sl x : Operand)
    (ho : o.op = .call { callee := .builtin .append, args := #[sl, x], argTypes := #[108, 9] })
    (base : Nat) (v : Value) (l : List UInt8) (hs : a.eval sl = v) (h : Txt w base v l) (s : ByteArray) (hx : a.eval x = .string s) (hl : l.length + s.size ≤ 140737488355328) (hb : base ≤ w.heap.size)
    (hK : ∀ v' w', Txt w' base v' (l ++ s.data.toList) → Below base w w' → wpList Tryz.prog ops Q rest (a.put o.dst v') w') : wpList Tryz.prog ops Q (o :: rest) a w := by
  refine wpList_plain hgd fun K hK' => ?_
  obtain ⟨v', w', hr, h2, h3⟩ := h.addString s o.type hl hb
  unfold Oper.wp execOp
  simp only [ho, resolve, invoke, builtin, Sem.run_bind, Sem.run_pure, Result.andThen_ok, List.map_toArray, List.map_cons, List.map_nil, hs, hx, hr]
  exact hK' _ _ (hK v' w' h2 h3)

theorem wp_addByte {w : World} {ops : Array Oper} {rest : List Oper} {o : Oper} {a : Act} {Q : Exit → Act → World → Prop} (hgd : o.guard = none) (sl x : Operand)
    (ho : o.op = .call { callee := .builtin .append, args := #[sl, x], argTypes := #[108, 108] })
    (base : Nat) (v : Value) (l : List UInt8) (hs : a.eval sl = v) (h : Txt w base v l) (c : UInt8) (g : Nat) (hg : w.cell? ⟨g, 0, none⟩ = some (.int .u8 c.toNat)) (hx : a.eval x = .slice (some ⟨g, 0, none⟩) 1 1) (hl : l.length + 1 ≤ 140737488355328) (hb : base ≤ w.heap.size)
    (hK : ∀ v' w', Txt w' base v' (l ++ [c]) → Below base w w' → wpList Tryz.prog ops Q rest (a.put o.dst v') w') : wpList Tryz.prog ops Q (o :: rest) a w := by
  refine wpList_plain hgd fun K hK' => ?_
  obtain ⟨v', w', hr, h2, h3⟩ := h.addByte c g hg o.type hl hb
  unfold Oper.wp execOp
  simp only [ho, resolve, invoke, builtin, Sem.run_bind, Sem.run_pure, Result.andThen_ok, List.map_toArray, List.map_cons, List.map_nil, hs, hx, hr]
  exact hK' _ _ (hK v' w' h2 h3)

theorem Txt.string {w : World} {base : Nat} {v : Value} {l : List UInt8} (h : Txt w base v l) (hl : l ≠ []) : (convert 108 22 v).run Tryz.prog w = .ok (.string ⟨l.toArray⟩) w := by
  have hpos := List.length_pos_iff.2 hl
  rcases h.2 with ⟨_, h0⟩ | ⟨g, cap, cur, rfl, _, hg, _, _, _, htake⟩
  · omega
  · exact run_convert_bytes_back w 108 22 5 ⟨g, 0, none⟩ cap l Tryz.underlying108 Tryz.underlying5 Tryz.underlying22
      (Lib.bytes_of_row hg (by simpa using htake))

theorem Can_drop {zs : List Int} (h : Num.Can zs) (k : Nat) : Num.Can (zs.drop k) := by
  induction k generalizing zs with
  | zero => simpa using h
  | succ k ih =>
    cases zs with
    | nil => simpa using Num.Can.nil
    | cons z zs => simpa using ih h.tail

/-- the text while it is put together -/
def lead (neg : Bool) : List UInt8 := if neg then [45] else []

theorem write_step {zs : List Int} (h : Num.Can zs) {j : Nat} (hj : j + 1 < zs.length) (pre : List UInt8) :
    pre ++ Num.dig1 (Num.gval (zs.drop (j + 1))) ++ Num.pad9 (zs.getD j 0) = pre ++ Num.dig1 (Num.gval (zs.drop j)) := by
  have hp := Num.gval_pos (Can_drop h (j + 1)) (by rw [Ne, List.drop_eq_nil_iff]; omega)
  have hz := h.1.getD j
  rw [List.append_assoc, ← Num.dig1_step (by omega) hz.1 hz.2]
  rw [List.drop_eq_getElem_cons (show j < zs.length by omega)]
  simp [Num.gval, List.getD, show j < zs.length by omega]
theorem write_first {zs : List Int} (h : Num.Can zs) {n : Nat} (hn : zs.length = n + 1) : Lib.itoa (zs.getD n 0) = Num.dig1 (Num.gval (zs.drop n)) := by
  have hz := h.1.getD n
  rw [Num.dig1_itoa hz.1, List.drop_eq_getElem_cons (show n < zs.length by omega), List.drop_of_length_le (by omega)]
  simp [Num.gval, List.getD, show n < zs.length by omega]
theorem write_done (neg : Bool) {z : Int} (h : 0 < z) : lead neg ++ Num.dig1 z = Num.canon (if neg then -z else z) := by
  cases neg
  · simp [lead, Num.canon_pos h]
  · simp [lead, Num.canon_neg h]

theorem dig1_ne (z : Int) : Num.dig1 z ≠ [] := Num.decDigits_ne _
theorem num9 {z : Int} (h0 : 0 ≤ z) (h1 : z < 1000000000) : (Lib.itoa z).length ≤ 21 := Lib.itoa_length_le z (by omega) (by omega)

/-- the sign for negative -/
def sg (neg : Bool) (z : Int) : Int := if neg then -z else z

set_option maxRecDepth 100000 in
set_option maxHeartbeats 2000000 in
theorem write_nil (neg : Bool) (w : World) (xa : Option Addr) (cap : Nat) :
    Calls Tryz.prog 83 #[.bool neg, .slice xa 0 cap] w fun e w' => e = .returned (.string (cS (sg neg (Num.gval [])))) ∧ Below w.heap.size w w' := by
  go_enter Tryz.func83, Tryz.ntmps83
  go_wp2
  go_ret
  exact ⟨by cases neg <;> rfl, Below.refl _ _⟩

set_option maxRecDepth 100000 in
set_option maxHeartbeats 2000000 in
theorem write_pos (w : World) (hG : Ground w) (b o cap n : Nat) (zs : List Int) (hn : zs.length = n + 1) (hx : Sl w b o cap zs) (cz : Num.Can zs) (hlim : n ≤ 1099511627776) :
    Calls Tryz.prog 83 #[.bool false, .slice (some ⟨b, o, none⟩) (n + 1) cap] w fun e w' => e = .returned (.string (cS (sg false (Num.gval zs)))) ∧ Below w.heap.size w w' := by
  have hmk := run_makeBytes (1 + 9 * (n + 1)) (by omega)
  rw [show ((1 + 9 * (n + 1) : Nat) : Int) = 1 + 9 * ((n : Int) + 1) by omega] at hmk
  obtain ⟨x, hxx⟩ : ∃ x, x = zs.getD n 0 := ⟨_, rfl⟩
  have hxb := cz.1.getD n
  rw [← hxx] at hxb
  unfold Num.B at hxb
  have hfirst := write_first cz hn
  rw [← hxx] at hfirst
  have hz0 : ((n : Int) + 1 == 0) = false := by rw [beq_eq_false_iff_ne]; omega
  have hpos := Num.gval_pos cz (by rintro rfl; simp at hn)
  have HP := Lib.hid hpos
  have HF := Lib.hid hfirst
  have HX := Lib.hid hxx
  have HN := Lib.hid hn
  clear hpos hfirst hn
  have hc0 := (hx.alloc (byteRow (1 + 9 * (n + 1)))).cell n (by have := HN.out; omega)
  rw [← hxx] at hc0
  clear hxx
  have hT := Txt.made w (1 + 9 * (n + 1)) (by omega) (Nat.le_refl _)
  have hB : Below w.heap.size w (w.alloc (byteRow (1 + 9 * (n + 1)))) := (Below.refl _ _).alloc (Nat.le_refl _) _
  have HT := Lib.hid hT
  have HB := Lib.hid hB
  clear hT hB
  go_enter Tryz.func83, Tryz.ntmps83
  go_wp2_with fail
  refine (Tryz.strconv_Itoa x (by omega) (by omega) _ (hG.below HB.out).tab).mono ?_
  rintro e W1 ⟨rfl, q, os, hW⟩
  have hB1 := HB.out.trans ((below_grow (w := w.alloc (byteRow (1 + 9 * (n + 1)))) q os).mono (HB.out.size))
  have hT1 := HT.out.kept (below_grow (w := w.alloc (byteRow (1 + 9 * (n + 1)))) q os)
  rw [← hW] at hB1 hT1
  have hxl : (ByteArray.mk (Lib.itoa x).toArray).size ≤ 21 := by have := num9 hxb.1 hxb.2; rw [← size_toList]; simpa using this
  rw [HF.out] at hxl
  rw [HF.out]
  have HT1 := Lib.hid hT1
  have HB1 := Lib.hid hB1
  clear hW hB1 hT1
  go_wp2_with (at_builtin; refine wp_addString rfl _ _ rfl w.heap.size _ _ rfl HT1.out _ rfl (by simp; omega) HB1.out.size ?_; intro v2 W2 hT2 hB2; have HT2 := Lib.hid hT2; have HB2 := Lib.hid (HB1.out.trans hB2); clear hT2 hB2)
  have hlen0 : (lead false ++ Num.dig1 (Num.gval (zs.drop n))).length ≤ 22 + 21 * (n - n) := by
    have h1 : (lead false).length ≤ 1 := by decide
    have h2 : (Num.dig1 (Num.gval (zs.drop n))).length ≤ 21 := by rw [← HF.out]; exact num9 hxb.1 hxb.2
    rw [List.length_append]; omega
  have HLen0 := Lib.hid hlen0
  clear hlen0
  go_loopw [5, 7] (fun tv iv wr => ∃ k : Nat, k ≤ n ∧ iv = .int .i64 ((k : Int) - 1) ∧ Txt wr w.heap.size tv (lead false ++ Num.dig1 (Num.gval (zs.drop k))) ∧ (lead false ++ Num.dig1 (Num.gval (zs.drop k))).length ≤ 22 + 21 * (n - k) ∧ Below w.heap.size w wr) (fun _ iv _ => (intOf iv + 1).toNat)
  case atStart => exact ⟨n, Nat.le_refl _, rfl, HT2.out, HLen0.out, HB2.out⟩
  case round =>
    clear HT2 HB2 HT1 HB1
    obtain ⟨k, hk, rfl, hT, hlen, hB⟩ := hrel
    have HT := Lib.hid hT
    have HB := Lib.hid hB
    clear hT hB
    by_cases h0 : k = 0
    · subst h0
      have hstr := HT.out.string (by simp [dig1_ne])
      have hfin := write_done false (z := Num.gval zs) HP.out
      have HFin := Lib.hid hfin
      clear hfin
      go_wp2_with fail
      go_ret
      exact ⟨by rw [HFin.out]; rfl, HB.out⟩
    · obtain ⟨j, rfl⟩ : ∃ j, k = j + 1 := ⟨k - 1, by omega⟩
      rw [show ((j + 1 : Nat) : Int) - 1 = (j : Int) by omega]
      obtain ⟨y, hyy⟩ : ∃ y, y = zs.getD j 0 := ⟨_, rfl⟩
      have hyb := cz.1.getD j
      rw [← hyy] at hyb
      unfold Num.B at hyb
      have hyc := (hx.below HB.out hx.lt).cell j (by have := HN.out; omega)
      rw [← hyy] at hyc
      have HY := Lib.hid hyy
      clear hyy
      go_wp2_with fail
      refine (Tryz.strconv_Itoa (1000000000 + y) (by omega) (by omega) _ (hG.below HB.out).tab).mono ?_
      rintro e W3 ⟨rfl, q2, os2, hW⟩
      have hB3 := HB.out.trans ((below_grow (w := wr) q2 os2).mono (HB.out.size))
      have hT3 := HT.out.kept (below_grow (w := wr) q2 os2)
      rw [← hW] at hB3 hT3
      obtain ⟨S, hS⟩ : ∃ S : ByteArray, S = ⟨(Lib.itoa (1000000000 + y)).toArray⟩ := ⟨_, rfl⟩
      have hS1 : 1 ≤ S.size ∧ S.size ≤ 21 := by
        have h1 := Lib.itoa_length_le (1000000000 + y) (by omega) (by omega)
        have h2 : Lib.itoa (1000000000 + y) ≠ [] := by rw [Num.dig1_itoa (by omega)]; exact dig1_ne _
        have h3 := List.length_pos_iff.2 h2
        rw [hS, ← size_toList]; simp; omega
      have hpad : (S.extract 1 S.size).data.toList = Num.pad9 y := by
        rw [Lib.extract_to_end, hS]; unfold Num.pad9; simp
      have hel : (S.extract 1 S.size).size ≤ 21 := by rw [← size_toList, Lib.extract_to_end, List.length_drop, size_toList]; omega
      rw [← hS]
      have HT3 := Lib.hid hT3
      have HB3 := Lib.hid hB3
      have HPad := Lib.hid hpad
      have HEL := Lib.hid hel
      have hlen2 : (lead false ++ Num.dig1 (Num.gval (zs.drop (j + 1)))).length ≤ 30000000000000 := by omega
      have HLen := Lib.hid hlen
      have HLen2 := Lib.hid hlen2
      clear hW hB3 hT3 hS hpad hel hlen hlen2
      go_wp2_with (at_builtin; refine wp_addString rfl _ _ rfl w.heap.size _ _ rfl HT3.out _ rfl (by have := HEL.out; have := HLen2.out; omega) HB3.out.size ?_; intro v4 W4 hT4 hB4; have HT4 := Lib.hid hT4; have HB4 := Lib.hid (HB3.out.trans hB4); clear hT4 hB4)
      have hT4 := HT4.out
      rw [HPad.out, HY.out, write_step cz (by have := HN.out; omega)] at hT4
      have hl4 : (lead false ++ Num.dig1 (Num.gval (zs.drop j))).length ≤ 22 + 21 * (n - j) := by
        rw [← write_step cz (by have := HN.out; omega), List.length_append, ← HY.out, ← HPad.out, size_toList]
        have := HEL.out; have := HLen.out; omega
      go_roundw
      case rel => exact ⟨j, by omega, rfl, hT4, hl4, HB4.out⟩
      case measure => simp [intOf]

set_option maxRecDepth 100000 in
set_option maxHeartbeats 2000000 in
theorem write_neg (w : World) (hG : Ground w) (b o cap n : Nat) (zs : List Int) (hn : zs.length = n + 1) (hx : Sl w b o cap zs) (cz : Num.Can zs) (hlim : n ≤ 1099511627776) :
    Calls Tryz.prog 83 #[.bool true, .slice (some ⟨b, o, none⟩) (n + 1) cap] w fun e w' => e = .returned (.string (cS (sg true (Num.gval zs)))) ∧ Below w.heap.size w w' := by
  have hmk := run_makeBytes (1 + 9 * (n + 1)) (by omega)
  rw [show ((1 + 9 * (n + 1) : Nat) : Int) = 1 + 9 * ((n : Int) + 1) by omega] at hmk
  obtain ⟨x, hxx⟩ : ∃ x, x = zs.getD n 0 := ⟨_, rfl⟩
  have hxb := cz.1.getD n
  rw [← hxx] at hxb
  unfold Num.B at hxb
  have hfirst := write_first cz hn
  rw [← hxx] at hfirst
  have hz0 : ((n : Int) + 1 == 0) = false := by rw [beq_eq_false_iff_ne]; omega
  have hpos := Num.gval_pos cz (by rintro rfl; simp at hn)
  have HP := Lib.hid hpos
  have HF := Lib.hid hfirst
  have HX := Lib.hid hxx
  have HN := Lib.hid hn
  clear hpos hfirst hn
  have hc0 := (hx.alloc (byteRow (1 + 9 * (n + 1)))).cell n (by have := HN.out; omega)
  rw [← hxx] at hc0
  clear hxx
  have hT0 : Txt ((w.alloc (byteRow (1 + 9 * (n + 1)))).alloc (.cells #[.int .u8 45] 5)) w.heap.size (.slice (some ⟨w.heap.size, 0, none⟩) 0 (1 + 9 * (n + 1))) [] :=
    (Txt.made w _ (by omega) (Nat.le_refl _)).alloc _
  have hB0 : Below w.heap.size w ((w.alloc (byteRow (1 + 9 * (n + 1)))).alloc (.cells #[.int .u8 45] 5)) := ((Below.refl _ _).alloc (Nat.le_refl _) _).alloc (by simp) _
  have HT0 := Lib.hid hT0
  have HB0 := Lib.hid hB0
  clear hT0 hB0 hc0
  go_enter Tryz.func83, Tryz.ntmps83
  go_wp2_with (at_builtin; refine wp_addByte rfl _ _ rfl w.heap.size _ _ rfl HT0.out 45 (w.heap.size + 1) (by simp) rfl (by simp) (by simp; omega) ?_; intro v0 W0 hT hBa; have HT := Lib.hid hT; have HB := Lib.hid (HB0.out.trans hBa); have hc1 := ((hx.below HB.out hx.lt)).cell n (by have := HN.out; omega); rw [← HX.out] at hc1; clear hT hBa)
  refine (Tryz.strconv_Itoa x (by omega) (by omega) _ (hG.below HB.out).tab).mono ?_
  rintro e W1 ⟨rfl, q, os, hW⟩
  have hB1 := HB.out.trans ((below_grow (w := W0) q os).mono (HB.out.size))
  have hT1 := HT.out.kept (below_grow (w := W0) q os)
  rw [← hW] at hB1 hT1
  have hxl : (ByteArray.mk (Lib.itoa x).toArray).size ≤ 21 := by have := num9 hxb.1 hxb.2; rw [← size_toList]; simpa using this
  rw [HF.out] at hxl
  rw [HF.out]
  have HT1 := Lib.hid hT1
  have HB1 := Lib.hid hB1
  clear hW hB1 hT1
  go_wp2_with (at_builtin; refine wp_addString rfl _ _ rfl w.heap.size _ _ rfl HT1.out _ rfl (by simp; omega) HB1.out.size ?_; intro v2 W2 hT2 hB2; have HT2 := Lib.hid hT2; have HB2 := Lib.hid (HB1.out.trans hB2); clear hT2 hB2)
  have hlen0 : (lead true ++ Num.dig1 (Num.gval (zs.drop n))).length ≤ 22 + 21 * (n - n) := by
    have h1 : (lead true).length ≤ 1 := by decide
    have h2 : (Num.dig1 (Num.gval (zs.drop n))).length ≤ 21 := by rw [← HF.out]; exact num9 hxb.1 hxb.2
    rw [List.length_append]; omega
  have HLen0 := Lib.hid hlen0
  clear hlen0
  go_loopw [5, 7] (fun tv iv wr => ∃ k : Nat, k ≤ n ∧ iv = .int .i64 ((k : Int) - 1) ∧ Txt wr w.heap.size tv (lead true ++ Num.dig1 (Num.gval (zs.drop k))) ∧ (lead true ++ Num.dig1 (Num.gval (zs.drop k))).length ≤ 22 + 21 * (n - k) ∧ Below w.heap.size w wr) (fun _ iv _ => (intOf iv + 1).toNat)
  case atStart => exact ⟨n, Nat.le_refl _, rfl, HT2.out, HLen0.out, HB2.out⟩
  case round =>
    clear HT2 HB2 HT1 HB1
    obtain ⟨k, hk, rfl, hT, hlen, hB⟩ := hrel
    have HT := Lib.hid hT
    have HB := Lib.hid hB
    clear hT hB
    by_cases h0 : k = 0
    · subst h0
      have hstr := HT.out.string (by simp [dig1_ne])
      have hfin := write_done true (z := Num.gval zs) HP.out
      have HFin := Lib.hid hfin
      clear hfin
      go_wp2_with fail
      go_ret
      exact ⟨by rw [HFin.out]; rfl, HB.out⟩
    · obtain ⟨j, rfl⟩ : ∃ j, k = j + 1 := ⟨k - 1, by omega⟩
      rw [show ((j + 1 : Nat) : Int) - 1 = (j : Int) by omega]
      obtain ⟨y, hyy⟩ : ∃ y, y = zs.getD j 0 := ⟨_, rfl⟩
      have hyb := cz.1.getD j
      rw [← hyy] at hyb
      unfold Num.B at hyb
      have hyc := (hx.below HB.out hx.lt).cell j (by have := HN.out; omega)
      rw [← hyy] at hyc
      have HY := Lib.hid hyy
      clear hyy
      go_wp2_with fail
      refine (Tryz.strconv_Itoa (1000000000 + y) (by omega) (by omega) _ (hG.below HB.out).tab).mono ?_
      rintro e W3 ⟨rfl, q2, os2, hW⟩
      have hB3 := HB.out.trans ((below_grow (w := wr) q2 os2).mono (HB.out.size))
      have hT3 := HT.out.kept (below_grow (w := wr) q2 os2)
      rw [← hW] at hB3 hT3
      obtain ⟨S, hS⟩ : ∃ S : ByteArray, S = ⟨(Lib.itoa (1000000000 + y)).toArray⟩ := ⟨_, rfl⟩
      have hS1 : 1 ≤ S.size ∧ S.size ≤ 21 := by
        have h1 := Lib.itoa_length_le (1000000000 + y) (by omega) (by omega)
        have h2 : Lib.itoa (1000000000 + y) ≠ [] := by rw [Num.dig1_itoa (by omega)]; exact dig1_ne _
        have h3 := List.length_pos_iff.2 h2
        rw [hS, ← size_toList]; simp; omega
      have hpad : (S.extract 1 S.size).data.toList = Num.pad9 y := by
        rw [Lib.extract_to_end, hS]; unfold Num.pad9; simp
      have hel : (S.extract 1 S.size).size ≤ 21 := by rw [← size_toList, Lib.extract_to_end, List.length_drop, size_toList]; omega
      rw [← hS]
      have HT3 := Lib.hid hT3
      have HB3 := Lib.hid hB3
      have HPad := Lib.hid hpad
      have HEL := Lib.hid hel
      have hlen2 : (lead true ++ Num.dig1 (Num.gval (zs.drop (j + 1)))).length ≤ 30000000000000 := by omega
      have HLen := Lib.hid hlen
      have HLen2 := Lib.hid hlen2
      clear hW hB3 hT3 hS hpad hel hlen hlen2
      go_wp2_with (at_builtin; refine wp_addString rfl _ _ rfl w.heap.size _ _ rfl HT3.out _ rfl (by have := HEL.out; have := HLen2.out; omega) HB3.out.size ?_; intro v4 W4 hT4 hB4; have HT4 := Lib.hid hT4; have HB4 := Lib.hid (HB3.out.trans hB4); clear hT4 hB4)
      have hT4 := HT4.out
      rw [HPad.out, HY.out, write_step cz (by have := HN.out; omega)] at hT4
      have hl4 : (lead true ++ Num.dig1 (Num.gval (zs.drop j))).length ≤ 22 + 21 * (n - j) := by
        rw [← write_step cz (by have := HN.out; omega), List.length_append, ← HY.out, ← HPad.out, size_toList]
        have := HEL.out; have := HLen.out; omega
      go_roundw
      case rel => exact ⟨j, by omega, rfl, hT4, hl4, HB4.out⟩
      case measure => simp [intOf]

/-- write, at every sign, and for a slice that may be nil -/
theorem write_any (neg : Bool) (w : World) (hG : Ground w) (xa : Option Addr) (cap : Nat) (zs : List Int) (hx : 0 < zs.length → ∃ b o, xa = some ⟨b, o, none⟩ ∧ Sl w b o cap zs) (cz : Num.Can zs) (hlim : zs.length ≤ 1099511627776) :
    Calls Tryz.prog 83 #[.bool neg, .slice xa zs.length cap] w fun e w' => e = .returned (.string (cS (sg neg (Num.gval zs)))) ∧ Below w.heap.size w w' := by
  by_cases h0 : zs.length = 0
  · obtain rfl : zs = [] := List.eq_nil_of_length_eq_zero h0
    exact write_nil neg w xa cap
  · obtain ⟨n, hn⟩ : ∃ n, zs.length = n + 1 := ⟨zs.length - 1, by omega⟩
    obtain ⟨b, o, rfl, hsl⟩ := hx (by omega)
    rw [hn]
    cases neg
    · exact write_pos w hG b o cap n zs hn hsl cz (by omega)
    · exact write_neg w hG b o cap n zs hn hsl cz (by omega)

end Go.Proofs.YtldohkfomdcpoaaGreatDoor
