/- Layer 4: rows of strings and of fractions in memory: read, made whole, appended to. -/
import Derived.Test.YthhihdihkddakaaGreatDoorKA
import Derived.Test.YthhihdihkddakaaGreatDoorEA
import Derived.Test.YthhihdihkddakaaGreatDoorQB
namespace Go.Proofs.YthhihdihkddakaaGreatDoor
open Go.RowKit

/-! ### Cells that are read -/
/-- the m cells c lie behind the address xa; nothing is known of the address of none -/
structure Rc (w : World) (xa : Option Addr) (m : Nat) (c : Nat → Value) : Prop where
  sl : 0 < m → ∃ b o, xa = some ⟨b, o, none⟩ ∧ b < w.heap.size ∧ ∀ i, i < m → w.cell? ⟨b, o + i, none⟩ = some (c i)
theorem Rc.nil (w : World) (xa : Option Addr) (c : Nat → Value) : Rc w xa 0 c := ⟨fun h => absurd h (by omega)⟩
theorem Rc.below {w w' : World} {xa : Option Addr} {m : Nat} {c : Nat → Value} (h : Rc w xa m c) (hb : Below w.heap.size w w') : Rc w' xa m c :=
  ⟨fun h0 => by obtain ⟨b, o, e, hl, hc⟩ := h.sl h0; exact ⟨b, o, e, Nat.lt_of_lt_of_le hl hb.size, fun i hi => (hb.cell (p := ⟨b, o + i, none⟩) hl).trans (hc i hi)⟩⟩
theorem Rc.belowAt {B : Nat} {w w' : World} {xa : Option Addr} {m : Nat} {c : Nat → Value} (h : Rc w xa m c) (hb : Below B w w') (hB : w.heap.size ≤ B) : Rc w' xa m c := h.below (hb.mono hB)
theorem Rc.drewN {w : World} {xa : Option Addr} {m : Nat} {c : Nat → Value} (h : Rc w xa m c) (n : Nat) : Rc (w.drewN n) xa m c := ⟨h.sl⟩
theorem Rc.alloc {w : World} {xa : Option Addr} {m : Nat} {c : Nat → Value} (h : Rc w xa m c) (o : Obj) : Rc (w.alloc o) xa m c := h.below ((Below.refl _ w).alloc (Nat.le_refl _) o)
theorem Rc.prefix {w : World} {xa : Option Addr} {m k : Nat} {c : Nat → Value} (h : Rc w xa m c) (hk : k ≤ m) : Rc w xa k c :=
  ⟨fun h0 => by obtain ⟨b, o, e, hl, hc⟩ := h.sl (by omega); exact ⟨b, o, e, hl, fun i hi => hc i (by omega)⟩⟩
theorem Rc.congr {w : World} {xa : Option Addr} {m : Nat} {c d : Nat → Value} (h : Rc w xa m c) (e : ∀ i, i < m → d i = c i) : Rc w xa m d :=
  ⟨fun h0 => by obtain ⟨b, o, ea, hl, hc⟩ := h.sl h0; exact ⟨b, o, ea, hl, fun i hi => by rw [hc i hi, e i hi]⟩⟩
theorem Rc.setOther {w : World} {xa : Option Addr} {m : Nat} {c : Nat → Value} (h : Rc w xa m c) {a : Addr} (hne : ∀ b o, xa = some ⟨b, o, none⟩ → b ≠ a.block) (v : Value) : Rc (w.setCell a v) xa m c :=
  ⟨fun h0 => by
    obtain ⟨b, o, e, hl, hc⟩ := h.sl h0
    exact ⟨b, o, e, by simpa [World.setCell] using hl, fun i hi => (World.cell?_of_block (w := w) (a := ⟨b, o + i, none⟩) (Below.heap_setCell w a v b (hne b o e))).trans (hc i hi)⟩⟩
theorem Rc.grown {w w' : World} {xa : Option Addr} {m : Nat} {c : Nat → Value} {row : Option Nat} (h : Rc w xa m c) (hg : w.grownBy w' row) (hne : ∀ b o, xa = some ⟨b, o, none⟩ → some b ≠ row) : Rc w' xa m c :=
  ⟨fun h0 => by obtain ⟨b, o, e, hl, hc⟩ := h.sl h0; exact ⟨b, o, e, Nat.lt_of_lt_of_le hl hg.size, fun i hi => hg.cell (hc i hi) (hne b o e)⟩⟩

/-- a slice of n strings -/
abbrev Rs (w : World) (xa : Option Addr) (n : Nat) (s : Nat → ByteArray) : Prop := Rc w xa n fun i => .string (s i)
/-- a slice of n pairs of strings -/
abbrev Rf (w : World) (xa : Option Addr) (n : Nat) (u v : Nat → ByteArray) : Prop := Rc w xa (n * 2) fun i => .string (if i % 2 = 0 then u (i / 2) else v (i / 2))
theorem Rs.congr {w : World} {xa : Option Addr} {n : Nat} {s t : Nat → ByteArray} (h : Rs w xa n s) (e : ∀ i, i < n → t i = s i) : Rs w xa n t := Rc.congr h fun i hi => by show Value.string _ = Value.string _; rw [e i hi]
theorem Rs.at {w : World} {xa : Option Addr} {n : Nat} {s : Nat → ByteArray} (h : Rs w xa n s) {i : Nat} (hi : i < n) : ∃ b o, xa = some ⟨b, o, none⟩ ∧ b < w.heap.size ∧ w.cell? ⟨b, o + i, none⟩ = some (.string (s i)) := by
  obtain ⟨b, o, e, hl, hc⟩ := h.sl (by omega); exact ⟨b, o, e, hl, hc i hi⟩
theorem Rf.at {w : World} {xa : Option Addr} {n : Nat} {u v : Nat → ByteArray} (h : Rf w xa n u v) {i : Nat} (hi : i < n) :
    ∃ b o, xa = some ⟨b, o, none⟩ ∧ b < w.heap.size ∧ w.cell? ⟨b, o + i * 2, none⟩ = some (.string (u i)) ∧ w.cell? ⟨b, o + i * 2 + 1, none⟩ = some (.string (v i)) := by
  obtain ⟨b, o, e, hl, hc⟩ := h.sl (by omega)
  have h1 := hc (i * 2) (by omega)
  have h2 := hc (i * 2 + 1) (by omega)
  rw [if_pos (by omega), show i * 2 / 2 = i by omega] at h1
  rw [if_neg (by omega), show (i * 2 + 1) / 2 = i by omega, ← Nat.add_assoc] at h2
  exact ⟨b, o, e, hl, h1, h2⟩

/-! ### Rows that a call made whole -/
/-- f, at i x -/
def upd {α : Type} (f : Nat → α) (i : Nat) (x : α) : Nat → α := fun j => if j = i then x else f j
theorem upd_same {α : Type} (f : Nat → α) (i : Nat) (x : α) : upd f i x i = x := if_pos rfl
theorem upd_other {α : Type} (f : Nat → α) {i j : Nat} (x : α) (h : j ≠ i) : upd f i x j = f j := if_neg h
/-- block b holds n cells c of type t -/
def RowC (w : World) (b : Nat) (t : TypeId) (n : Nat) (c : Nat → Value) : Prop := w.heap[b]? = some (.cells ((List.range n).map c).toArray t (0, 0))
theorem RowC.lt {w : World} {b : Nat} {t : TypeId} {n : Nat} {c : Nat → Value} (h : RowC w b t n c) : b < w.heap.size := (Array.getElem?_eq_some_iff.1 h).1
theorem RowC.cell {w : World} {b : Nat} {t : TypeId} {n : Nat} {c : Nat → Value} (h : RowC w b t n c) {i : Nat} (hi : i < n) : w.cell? ⟨b, i, none⟩ = some (c i) := by
  rw [cell_of_row w b i _ _ _ h]
  simp [hi]
theorem RowC.frozen {w : World} {b : Nat} {t : TypeId} {n : Nat} {c : Nat → Value} (h : RowC w b t n c) (i : Nat) : w.frozen? ⟨b, i, none⟩ = false := frozen_of_row w b i _ _ h
theorem RowC.of_block {w w' : World} {b : Nat} {t : TypeId} {n : Nat} {c : Nat → Value} (h : RowC w b t n c) (e : w'.heap[b]? = w.heap[b]?) : RowC w' b t n c := by
  unfold RowC at *; rw [e]; exact h
theorem RowC.below {B : Nat} {w w' : World} {b : Nat} {t : TypeId} {n : Nat} {c : Nat → Value} (h : RowC w b t n c) (hb : Below B w w') (hlt : b < B) : RowC w' b t n c := h.of_block (hb.block b hlt)
theorem RowC.set {w : World} {b : Nat} {t : TypeId} {n : Nat} {c : Nat → Value} (h : RowC w b t n c) (i : Nat) (v : Value) : RowC (w.setCell ⟨b, i, none⟩ v) b t n (upd c i v) := by
  have := heap_setCell_same w b i _ _ v h
  unfold RowC
  rw [this, List.setIfInBounds_toArray]
  congr 3
  apply List.ext_getElem
  · simp
  · intro k h1 h2
    simp only [List.getElem_set, List.getElem_map, List.getElem_range, upd]
    by_cases e : i = k
    · subst e; simp
    · rw [if_neg e, if_neg (fun q => e q.symm)]
theorem RowC.setOther {w : World} {b : Nat} {t : TypeId} {n : Nat} {c : Nat → Value} (h : RowC w b t n c) {a : Addr} (hne : b ≠ a.block) (v : Value) : RowC (w.setCell a v) b t n c := h.of_block (Below.heap_setCell w a v b hne)
theorem RowC.alloc {w : World} {b : Nat} {t : TypeId} {n : Nat} {c : Nat → Value} (h : RowC w b t n c) (o : Obj) : RowC (w.alloc o) b t n c := h.of_block (Below.heap_alloc w o b h.lt)
theorem RowC.drewN {w : World} {b : Nat} {t : TypeId} {n : Nat} {c : Nat → Value} (h : RowC w b t n c) (k : Nat) : RowC (w.drewN k) b t n c := h
theorem RowC.congr {w : World} {b : Nat} {t : TypeId} {n : Nat} {c d : Nat → Value} (h : RowC w b t n c) (e : ∀ i, i < n → d i = c i) : RowC w b t n d := by
  unfold RowC at *
  rw [h, List.map_congr_left (fun i hi => (e i (List.mem_range.1 hi)).symm)]
theorem RowC.rc {w : World} {b : Nat} {t : TypeId} {n : Nat} {c : Nat → Value} (h : RowC w b t n c) : Rc w (some ⟨b, 0, none⟩) n c :=
  ⟨fun _ => ⟨b, 0, rfl, h.lt, fun i hi => by rw [Nat.zero_add]; exact h.cell hi⟩⟩
theorem RowC.made (w : World) (t : TypeId) (z : Value) (n : Nat) : RowC (w.alloc (.cells (madeCells #[z] n) t)) w.heap.size t n fun _ => z := by
  unfold RowC
  rw [heap_alloc_new]
  have : madeCells #[z] n = ((List.range n).map fun _ => z).toArray := by
    apply Array.toList_inj.1; rw [toList_madeCells_one]; simp [List.map_const']
  rw [this]

/-! ### Rows that grow by append -/
/-- the slice value v owns k cells c of a type of size cells each -/
def OwnC (w : World) (base : Nat) (t : TypeId) (size : Nat) (v : Value) (n : Nat) (c : Nat → Value) : Prop := w.ownsRow base t size v n ((List.range (n * size)).map c)
theorem OwnC.nil (w : World) (base : Nat) (t : TypeId) (size : Nat) (c : Nat → Value) : OwnC w base t size (.slice none 0 0) 0 c := by
  unfold OwnC; rw [Nat.zero_mul]; exact World.ownsRow_nil w base t size
theorem OwnC.kept {w w' : World} {base : Nat} {t : TypeId} {size : Nat} {v : Value} {n : Nat} {c : Nat → Value} (h : OwnC w base t size v n c) (hb : Below w.heap.size w w') : OwnC w' base t size v n c := by
  refine World.ownsRow.kept h (grown_of_below hb none) ?_
  cases hv : v.ownBlock with
  | none => exact .inl rfl
  | some b => exact .inr (by simp)
theorem OwnC.alloc {w : World} {base : Nat} {t : TypeId} {size : Nat} {v : Value} {n : Nat} {c : Nat → Value} (h : OwnC w base t size v n c) (o : Obj) : OwnC (w.alloc o) base t size v n c := World.ownsRow.alloc h o
theorem OwnC.congr {w : World} {base : Nat} {t : TypeId} {size : Nat} {v : Value} {n : Nat} {c d : Nat → Value} (h : OwnC w base t size v n c) (e : ∀ i, i < n * size → d i = c i) : OwnC w base t size v n d := by
  unfold OwnC at *
  rw [List.map_congr_left (fun i hi => e i (List.mem_range.1 hi))]; exact h
theorem OwnC.rc {w : World} {base : Nat} {t : TypeId} {size : Nat} {v : Value} {n : Nat} {c : Nat → Value} (h : OwnC w base t size v n c) : ∃ xa cap, v = .slice xa n cap ∧ Rc w xa (n * size) c ∧ n ≤ cap ∧ cap ≤ maxLen ∧ (∀ b o, xa = some ⟨b, o, none⟩ → base ≤ b) ∧ (xa = none → cap = 0) := by
  rcases h.2 with ⟨rfl, h0⟩ | ⟨g, cap, cur, rfl, hb, hg, hnc, hcm, hcs, ht⟩
  · subst h0
    exact ⟨none, 0, rfl, ⟨fun hp => by omega⟩, Nat.le_refl _, by unfold maxLen; omega, fun b o e => (by cases e), fun _ => rfl⟩
  · refine ⟨some ⟨g, 0, none⟩, cap, rfl, ⟨fun _ => ⟨g, 0, rfl, (Array.getElem?_eq_some_iff.1 hg).1, fun i hi => ?_⟩⟩, hnc, hcm, fun b o e => (by cases e; exact hb), fun e => (by cases e)⟩
    have := World.ownsRow.cells h (g := g) rfl i (c i) (by simp [hi])
    rw [Nat.zero_add, ← this, addr_add]

theorem info_Int : (Tryz.prog.info? 22).map (fun i => (i.zero, i.size, i.bytes)) = some (some (.string ⟨#[]⟩), 1, 16) := by kernel_rfl
theorem info_Frac : (Tryz.prog.info? 36).map (fun i => (i.zero, i.size, i.bytes)) = some (some (.agg #[.string ⟨#[]⟩, .string ⟨#[]⟩]), 2, 32) := by kernel_rfl

/-- make([]Int, n), make([]Int, 0, n) -/
theorem run_makeStrs (n : Nat) (hn : n ≤ 1099511627776) (w : World) :
    (Instr.makeSlice 23 (.int .i64 (n : Int)) (.int .i64 (n : Int))).run Tryz.prog w = .ok (.slice (some ⟨w.heap.size, 0, none⟩) n n) (w.alloc (.cells (madeCells #[.string ⟨#[]⟩] n) 22)) := by
  obtain ⟨i0, hi, hz0, hz1, hz2⟩ := info_parts info_Int
  have hr := run_make (P := Tryz.prog) w 23 22 i0 (.string ⟨#[]⟩) Tryz.underlying23 hi hz0 .i64 .i64 n n (by omega) (by omega) (by rw [hz2]; omega) (by omega)
  simp only [Int.toNat_natCast] at hr
  rw [hr, hz1]
  simp [Value.cells]

/-- the slice value v owns n strings s -/
abbrev OwnS (w : World) (base : Nat) (v : Value) (n : Nat) (s : Nat → ByteArray) : Prop := OwnC w base 22 1 v n fun i => .string (s i)
theorem OwnS.add {w : World} {base : Nat} {v : Value} {n : Nat} {s : Nat → ByteArray} (h : OwnS w base v n s) (g : Nat) (hg : w.cell? ⟨g, 0, none⟩ = some (.string (s n))) (ty : TypeId) (hs : n + 1 ≤ 10000000) (hb : base ≤ w.heap.size) :
    ∃ v' w', (Builtin.append_ #[23, 23] ty #[v, .slice (some ⟨g, 0, none⟩) 1 1]).run Tryz.prog w = .ok v' w' ∧ OwnS w' base v' (n + 1) s ∧ Below base w w' := by
  obtain ⟨i0, hi, hz0, hz1, hz2⟩ := info_parts info_Int
  obtain ⟨v', w', h1, h2, h3, _⟩ := run_append_own (P := Tryz.prog) w base 23 ty 22 i0 (.string ⟨#[]⟩) 1 16 Tryz.underlying23 hi hz0 hz1 hz2 rfl (by decide) v n _ h ⟨g, 0, none⟩ 1 1 [.string (s n)] rfl
    (fun j u hj => by
      match j, hj with
      | 0, hj => simp at hj; subst hj; simpa [Addr.add] using hg
      | j + 1, hj => simp at hj)
    (fun u hu => by simp at hu; subst hu; rfl) (by unfold maxLen; omega) (by omega) hb
  refine ⟨v', w', h1, ?_, (Below.refl base w).grown h3 hb (fun k hk => (World.ownsRow.lt h k hk).1)⟩
  unfold OwnS OwnC
  rw [Nat.mul_one, List.range_succ, List.map_append]
  rw [Nat.mul_one] at h2
  exact h2
theorem wp_addStr {w : World} {ops : Array Oper} {rest : List Oper} {o : Oper} {a : Act} {Q : Exit → Act → World → Prop} (hgd : o.guard = none) (sl x : Operand)
    (ho : o.op = .call { callee := .builtin .append, args := #[sl, x], argTypes := #[23, 23] })
    (base : Nat) (v : Value) (n : Nat) (s : Nat → ByteArray) (hs : a.eval sl = v) (h : OwnS w base v n s) (g : Nat) (hg : w.cell? ⟨g, 0, none⟩ = some (.string (s n))) (hx : a.eval x = .slice (some ⟨g, 0, none⟩) 1 1) (hl : n + 1 ≤ 10000000) (hb : base ≤ w.heap.size)
    (hK : ∀ v' w', OwnS w' base v' (n + 1) s → Below base w w' → wpList Tryz.prog ops Q rest (a.put o.dst v') w') : wpList Tryz.prog ops Q (o :: rest) a w := by
  refine wpList_plain hgd fun K hK' => ?_
  obtain ⟨v', w', hr, h2, h3⟩ := h.add g hg o.type hl hb
  unfold Oper.wp execOp
  simp only [ho, resolve, invoke, builtin, Sem.run_bind, Sem.run_pure, Result.andThen_ok, List.map_toArray, List.map_cons, List.map_nil, hs, hx, hr]
  exact hK' _ _ (hK v' w' h2 h3)

/-- the slice value v owns n pairs of strings -/
abbrev OwnF (w : World) (base : Nat) (x : Value) (n : Nat) (u v : Nat → ByteArray) : Prop := OwnC w base 36 2 x n fun i => .string (if i % 2 = 0 then u (i / 2) else v (i / 2))
theorem OwnF.add {w : World} {base : Nat} {x : Value} {n : Nat} {u v : Nat → ByteArray} (h : OwnF w base x n u v) (g : Nat) (hg : w.cell? ⟨g, 0, none⟩ = some (.string (u n))) (hg1 : w.cell? ⟨g, 1, none⟩ = some (.string (v n))) (ty : TypeId) (hs : n + 1 ≤ 10000000) (hb : base ≤ w.heap.size) :
    ∃ v' w', (Builtin.append_ #[29, 29] ty #[x, .slice (some ⟨g, 0, none⟩) 1 1]).run Tryz.prog w = .ok v' w' ∧ OwnF w' base v' (n + 1) u v ∧ Below base w w' := by
  obtain ⟨i0, hi, hz0, hz1, hz2⟩ := info_parts info_Frac
  obtain ⟨v', w', h1, h2, h3, _⟩ := run_append_own (P := Tryz.prog) w base 29 ty 36 i0 (.agg #[.string ⟨#[]⟩, .string ⟨#[]⟩]) 2 32 Tryz.underlying29 hi hz0 hz1 hz2 rfl (by decide) x n _ h ⟨g, 0, none⟩ 1 1 [.string (u n), .string (v n)] rfl
    (fun j y hj => by
      match j, hj with
      | 0, hj => simp at hj; subst hj; simpa [Addr.add] using hg
      | 1, hj => simp at hj; subst hj; simpa [Addr.add] using hg1
      | j + 2, hj => simp at hj)
    (fun y hy => by simp at hy; rcases hy with rfl | rfl <;> rfl) (by unfold maxLen; omega) (by omega) hb
  refine ⟨v', w', h1, ?_, (Below.refl base w).grown h3 hb (fun k hk => (World.ownsRow.lt h k hk).1)⟩
  unfold OwnF OwnC
  rw [show (n + 1) * 2 = n * 2 + 1 + 1 by omega, List.range_succ, List.range_succ, List.map_append, List.map_append, List.append_assoc]
  have e1 : (n * 2) % 2 = 0 := by omega
  have e2 : (n * 2) / 2 = n := by omega
  have e3 : (n * 2 + 1) % 2 ≠ 0 := by omega
  have e4 : (n * 2 + 1) / 2 = n := by omega
  simp only [List.map_cons, List.map_nil, if_pos e1, e2, if_neg e3, e4]
  exact h2

end Go.Proofs.YthhihdihkddakaaGreatDoor

/- The program's layer 4: isNegative, size, areCanonical, checkCount: the walks. -/
namespace Go.Proofs.YthhihdihkddakaaGreatDoor
open Go.RowKit

theorem cmp3_lt0 (z : Int) : decide (cmp3 z 0 < 0) = decide (z < 0) := by
  unfold cmp3
  split <;> (try split) <;> simp <;> omega

set_option maxRecDepth 100000 in
set_option maxHeartbeats 1000000 in
theorem aNeg {s : ByteArray} {z : Int} (hs : s.size ≤ 4294967295) (hz : vS s = z) (w : World) :
    Calls Tryz.prog 102 #[.string s] w fun e w' => e = .returned (.bool (decide (z < 0))) ∧ Below w.heap.size w w' := by
  obtain ⟨c, hc⟩ : ∃ c, cmp3 z 0 = c := ⟨_, rfl⟩
  have HD := Lib.hid (show decide (c < 0) = decide (z < 0) by rw [← hc]; exact cmp3_lt0 z)
  have HC := Lib.hid (compare_v w hs (by decide) hz vS_nil hc)
  clear hc hz hs
  go_enter Tryz.func102, Tryz.ntmps102
  go_wp2_with fail
  refine HC.out.mono ?_
  rintro _ w1 ⟨rfl, hB⟩
  go_wp2_with fail
  go_ret
  exact ⟨by rw [HD.out]; simp, hB⟩

set_option maxRecDepth 100000 in
set_option maxHeartbeats 1000000 in
theorem aSize {z : Int} (hs : (cS z).size ≤ 4294967295) (w : World) :
    Calls Tryz.prog 83 #[.string (cS z)] w fun e w' => e = .returned (.string (cS (z.natAbs : Int))) ∧ Below w.heap.size w w' := by
  have HN := Lib.hid (aNeg hs (vS_cS z) w)
  by_cases h : z < 0
  · have hd : decide (z < 0) = true := decide_eq_true h
    have HG := Lib.hid (fun W => neg_v (z := (z.natAbs : Int)) W hs (vS_cS z) (by omega))
    obtain ⟨s, hS⟩ : ∃ s, cS z = s := ⟨_, rfl⟩
    rw [hd, hS] at HN
    rw [hS] at HG ⊢
    clear hs h hd hS
    go_enter Tryz.func83, Tryz.ntmps83
    go_wp2_with fail
    refine HN.out.mono ?_
    rintro _ w1 ⟨rfl, hB⟩
    go_wp2_with fail
    refine (HG.out _).mono ?_
    rintro _ w2 ⟨rfl, rfl⟩
    go_wp2_with fail
    go_ret
    exact ⟨rfl, hB⟩
  · have hd : decide (z < 0) = false := decide_eq_false h
    obtain ⟨s, hS⟩ : ∃ s, cS z = s := ⟨_, rfl⟩
    have HE := Lib.hid (show cS (z.natAbs : Int) = s by rw [← hS]; congr 1; omega)
    rw [hd, hS] at HN
    rw [hS, HE.out]
    clear hs h hd hS HE
    go_enter Tryz.func83, Tryz.ntmps83
    go_wp2_with fail
    refine HN.out.mono ?_
    rintro _ w1 ⟨rfl, hB⟩
    go_wp2_with fail
    go_ret
    exact ⟨rfl, hB⟩

/-- all n strings are canonical -/
def allC (n : Nat) (s : Nat → ByteArray) : Bool := (List.range n).all fun i => isCan (s i)
theorem allC_succ (n : Nat) (s : Nat → ByteArray) : allC (n + 1) s = (allC n s && isCan (s n)) := by unfold allC; rw [List.range_succ, List.all_append]; simp
theorem allC_iff {n : Nat} {s : Nat → ByteArray} : allC n s = true ↔ ∀ i, i < n → isCan (s i) = true := by
  unfold allC; rw [List.all_eq_true]
  exact ⟨fun h i hi => h i (List.mem_range.2 hi), fun h i hi => h i (List.mem_range.1 hi)⟩
theorem allC_false {n k : Nat} {s : Nat → ByteArray} (hk : k < n) (h : isCan (s k) = false) : allC n s = false := by
  cases hc : allC n s with
  | false => rfl
  | true => rw [allC_iff.1 hc k hk] at h; exact h

set_option maxRecDepth 100000 in
set_option maxHeartbeats 1000000 in
theorem aCan (w : World) (xa : Option Addr) (n cap : Nat) (s : Nat → ByteArray) (hr : Rs w xa n s) (hlim : n ≤ 100000) (hz : ∀ i, i < n → (s i).size ≤ 4294967295) :
    Calls Tryz.prog 82 #[.slice xa n cap] w fun e w' => e = .returned (.bool (allC n s)) ∧ w = w' := by
  go_enter Tryz.func82, Tryz.ntmps82
  go_wp2_with fail
  go_loopw [7] (fun iv wr => ∃ k : Nat, k ≤ n ∧ iv = .int .i64 (k : Int) ∧ allC k s = true ∧ wr = w) (fun iv _ => n - (intOf iv).toNat)
  case atStart => exact ⟨0, Nat.zero_le _, rfl, rfl, rfl⟩
  case round =>
    obtain ⟨k, hk, rfl, hl, rfl⟩ := hrel
    have HL := Lib.hid hl
    clear hl
    by_cases hlt : k < n
    · obtain ⟨b, o, rfl, hb, hck⟩ := hr.at hlt
      obtain ⟨sk, hsk⟩ : ∃ sk, s k = sk := ⟨_, rfl⟩
      rw [hsk] at hck
      have HSK := Lib.hid hsk
      have HC := Lib.hid (check_any sk wr (by rw [← hsk]; have := hz k hlt; omega))
      have HR := Lib.hid hr
      have HZ := Lib.hid hz
      clear hsk hr hz
      go_wp2_with fail
      refine HC.out.mono ?_
      rintro e w' ⟨rfl, rfl⟩
      by_cases hs : isCan sk = true
      · have hd : chk sk = 0 := by unfold chk; rw [hs]; rfl
        rw [hd]
        have HT := Lib.hid (show allC (k + 1) s = true by rw [allC_succ, HL.out, HSK.out, hs]; rfl)
        clear hd hs
        go_wp2_with fail
        go_roundw
        case rel => exact ⟨k + 1, by omega, by simp, HT.out, trivial⟩
        case measure => simp [intOf]; omega
      · have hs' : isCan sk = false := by cases h : isCan sk <;> simp_all
        have hd : chk sk = 1 := by unfold chk; rw [hs']; rfl
        rw [hd]
        have HT := Lib.hid (show allC n s = false from allC_false hlt (by rw [HSK.out]; exact hs'))
        clear hd hs hs'
        go_wp2_with fail
        go_ret
        exact ⟨by rw [HT.out]; rfl, rfl⟩
    · obtain rfl : k = n := by omega
      clear hr hz
      go_wp2_with fail
      go_ret
      exact ⟨by rw [HL.out]; rfl, rfl⟩

/-- what is wrong with so many weights -/
def cnt (n : Nat) : Int := if n = 0 then 11 else if 1000 < n then 4 else 0
set_option maxRecDepth 100000 in
set_option maxHeartbeats 1000000 in
theorem aCount (n : Nat) (w : World) (hn : n ≤ 9223372036854775807) :
    Calls Tryz.prog 101 #[.int .i64 (n : Int)] w fun e w' => e = .returned (.int .i64 (cnt n)) ∧ w = w' := by
  by_cases h0 : n = 0
  · subst h0
    go_enter Tryz.func101, Tryz.ntmps101
    go_wp2_with fail
    go_ret
    exact ⟨rfl, rfl⟩
  · have hb : ((n : Int) == 0) = false := by rw [beq_eq_false_iff_ne]; omega
    by_cases h1 : 1000 < n
    · have HC := Lib.hid (show cnt n = 4 by unfold cnt; rw [if_neg h0, if_pos h1])
      have hi : (1000 : Int) < n := by omega
      clear h0 h1
      go_enter Tryz.func101, Tryz.ntmps101
      go_wp2_with fail
      go_ret
      exact ⟨by rw [HC.out]; rfl, rfl⟩
    · have HC := Lib.hid (show cnt n = 0 by unfold cnt; rw [if_neg h0, if_neg h1])
      have hi : ¬ (1000 : Int) < n := by omega
      clear h0 h1
      go_enter Tryz.func101, Tryz.ntmps101
      go_wp2_with fail
      go_ret
      exact ⟨by rw [HC.out]; rfl, rfl⟩

end Go.Proofs.YthhihdihkddakaaGreatDoor

/- slices.IndexFunc and ContainsFunc with the predicates of layer 4: the walks. -/
namespace Go.Proofs.YthhihdihkddakaaGreatDoor
open Go.RowKit

set_option maxRecDepth 100000 in
set_option maxHeartbeats 1000000 in
/-- slices.IndexFunc(s, isNegative) -/
theorem idxNeg (w : World) (hG : Ground w) (xa : Option Addr) (n cap : Nat) (s : Nat → ByteArray) (hr : Rs w xa n s) (hlim : n ≤ 100000) (P : Nat → Bool) (hp : ∀ i, i < n → ∀ W, Ground W → Calls Tryz.prog 102 #[.string (s i)] W fun e W' => e = .returned (.bool (P i)) ∧ Below W.heap.size W W') :
    Calls Tryz.prog 100 #[.slice xa n cap, .func (.func 102) #[] #[]] w fun e w' => (∃ r : Int, e = .returned (.int .i64 r) ∧ decide (0 ≤ r) = (List.range n).any P) ∧ Below w.heap.size w w' := by
  go_enter Tryz.func100, Tryz.ntmps100
  go_wp2_with fail
  go_loopw [8] (fun iv wr => ∃ k : Nat, k ≤ n ∧ iv = .int .i64 (k : Int) ∧ (List.range k).any P = false ∧ Below w.heap.size w wr) (fun iv _ => n - (intOf iv).toNat)
  case atStart => exact ⟨0, Nat.zero_le _, rfl, rfl, Below.refl _ _⟩
  case round =>
    obtain ⟨k, hk, rfl, hl, hB⟩ := hrel
    have HL := Lib.hid hl
    clear hl
    by_cases hlt : k < n
    · have hr1 := hr.belowAt hB (Nat.le_refl _)
      obtain ⟨b, o, rfl, hb, hck⟩ := Rs.at hr1 hlt
      have HP := Lib.hid (hp k hlt wr (hG.below hB))
      obtain ⟨sk, hsk⟩ : ∃ sk, s k = sk := ⟨_, rfl⟩
      rw [hsk] at hck HP
      clear hsk
      have HB := Lib.hid hB
      clear hr hr1 hp hB
      go_wp2_with fail
      refine HP.out.mono ?_
      rintro e w' ⟨rfl, hB1⟩
      have hB2 := HB.out.trans (hB1.mono HB.out.size)
      have hsu : (List.range (k + 1)).any P = ((List.range k).any P || P k) := by rw [List.range_succ, List.any_append]; simp
      cases hpk : P k with
      | true =>
        have HT := Lib.hid (show decide ((0 : Int) ≤ (k : Int)) = (List.range n).any P by
          rw [decide_eq_true (by omega)]
          exact (List.any_eq_true.2 ⟨k, List.mem_range.2 hlt, hpk⟩).symm)
        clear hsu hpk hB1
        go_wp2_with fail
        go_ret
        exact ⟨⟨_, rfl, HT.out⟩, hB2⟩
      | false =>
        have HT := Lib.hid (show (List.range (k + 1)).any P = false by rw [hsu, HL.out, hpk]; rfl)
        clear hsu hpk hB1
        go_wp2_with fail
        go_roundw
        case rel => exact ⟨k + 1, by omega, by simp, HT.out, hB2⟩
        case measure => simp [intOf]; omega
    · obtain rfl : k = n := by omega
      clear hr hp
      go_wp2_with fail
      go_ret
      exact ⟨⟨-1, rfl, by rw [HL.out]; rfl⟩, hB⟩

set_option maxRecDepth 100000 in
set_option maxHeartbeats 1000000 in
theorem hasNeg (w : World) (hG : Ground w) (xa : Option Addr) (n cap : Nat) (s : Nat → ByteArray) (hr : Rs w xa n s) (hlim : n ≤ 100000) (P : Nat → Bool) (hp : ∀ i, i < n → ∀ W, Ground W → Calls Tryz.prog 102 #[.string (s i)] W fun e W' => e = .returned (.bool (P i)) ∧ Below W.heap.size W W') :
    Calls Tryz.prog 47 #[.slice xa n cap, .func (.func 102) #[] #[]] w fun e w' => e = .returned (.bool ((List.range n).any P)) ∧ Below w.heap.size w w' := by
  have HI := Lib.hid (idxNeg w hG xa n cap s hr hlim P hp)
  clear hp hr
  go_enter Tryz.func47, Tryz.ntmps47
  go_wp2_with fail
  refine HI.out.mono ?_
  rintro _ w1 ⟨⟨r, rfl, hd⟩, hB⟩
  have HD := Lib.hid hd
  clear hd
  go_wp2_with fail
  go_ret
  exact ⟨by rw [← HD.out]; simp, hB⟩

set_option maxRecDepth 100000 in
set_option maxHeartbeats 1000000 in
/-- slices.IndexFunc(s, a string of over 30 bytes) -/
theorem idxGreat (w : World) (hG : Ground w) (xa : Option Addr) (n cap : Nat) (s : Nat → ByteArray) (hr : Rs w xa n s) (hlim : n ≤ 100000) (P : Nat → Bool) (hp : ∀ i, i < n → ∀ W, Ground W → Calls Tryz.prog 48 #[.string (s i)] W fun e W' => e = .returned (.bool (P i)) ∧ Below W.heap.size W W') :
    Calls Tryz.prog 100 #[.slice xa n cap, .func (.func 48) #[] #[]] w fun e w' => (∃ r : Int, e = .returned (.int .i64 r) ∧ decide (0 ≤ r) = (List.range n).any P) ∧ Below w.heap.size w w' := by
  go_enter Tryz.func100, Tryz.ntmps100
  go_wp2_with fail
  go_loopw [8] (fun iv wr => ∃ k : Nat, k ≤ n ∧ iv = .int .i64 (k : Int) ∧ (List.range k).any P = false ∧ Below w.heap.size w wr) (fun iv _ => n - (intOf iv).toNat)
  case atStart => exact ⟨0, Nat.zero_le _, rfl, rfl, Below.refl _ _⟩
  case round =>
    obtain ⟨k, hk, rfl, hl, hB⟩ := hrel
    have HL := Lib.hid hl
    clear hl
    by_cases hlt : k < n
    · have hr1 := hr.belowAt hB (Nat.le_refl _)
      obtain ⟨b, o, rfl, hb, hck⟩ := Rs.at hr1 hlt
      have HP := Lib.hid (hp k hlt wr (hG.below hB))
      obtain ⟨sk, hsk⟩ : ∃ sk, s k = sk := ⟨_, rfl⟩
      rw [hsk] at hck HP
      clear hsk
      have HB := Lib.hid hB
      clear hr hr1 hp hB
      go_wp2_with fail
      refine HP.out.mono ?_
      rintro e w' ⟨rfl, hB1⟩
      have hB2 := HB.out.trans (hB1.mono HB.out.size)
      have hsu : (List.range (k + 1)).any P = ((List.range k).any P || P k) := by rw [List.range_succ, List.any_append]; simp
      cases hpk : P k with
      | true =>
        have HT := Lib.hid (show decide ((0 : Int) ≤ (k : Int)) = (List.range n).any P by
          rw [decide_eq_true (by omega)]
          exact (List.any_eq_true.2 ⟨k, List.mem_range.2 hlt, hpk⟩).symm)
        clear hsu hpk hB1
        go_wp2_with fail
        go_ret
        exact ⟨⟨_, rfl, HT.out⟩, hB2⟩
      | false =>
        have HT := Lib.hid (show (List.range (k + 1)).any P = false by rw [hsu, HL.out, hpk]; rfl)
        clear hsu hpk hB1
        go_wp2_with fail
        go_roundw
        case rel => exact ⟨k + 1, by omega, by simp, HT.out, hB2⟩
        case measure => simp [intOf]; omega
    · obtain rfl : k = n := by omega
      clear hr hp
      go_wp2_with fail
      go_ret
      exact ⟨⟨-1, rfl, by rw [HL.out]; rfl⟩, hB⟩

set_option maxRecDepth 100000 in
set_option maxHeartbeats 1000000 in
theorem hasGreat (w : World) (hG : Ground w) (xa : Option Addr) (n cap : Nat) (s : Nat → ByteArray) (hr : Rs w xa n s) (hlim : n ≤ 100000) (P : Nat → Bool) (hp : ∀ i, i < n → ∀ W, Ground W → Calls Tryz.prog 48 #[.string (s i)] W fun e W' => e = .returned (.bool (P i)) ∧ Below W.heap.size W W') :
    Calls Tryz.prog 47 #[.slice xa n cap, .func (.func 48) #[] #[]] w fun e w' => e = .returned (.bool ((List.range n).any P)) ∧ Below w.heap.size w w' := by
  have HI := Lib.hid (idxGreat w hG xa n cap s hr hlim P hp)
  clear hp hr
  go_enter Tryz.func47, Tryz.ntmps47
  go_wp2_with fail
  refine HI.out.mono ?_
  rintro _ w1 ⟨⟨r, rfl, hd⟩, hB⟩
  have HD := Lib.hid hd
  clear hd
  go_wp2_with fail
  go_ret
  exact ⟨by rw [← HD.out]; simp, hB⟩

set_option maxRecDepth 100000 in
set_option maxHeartbeats 1000000 in
/-- slices.IndexFunc(l, a fraction that is wrong) -/
theorem idxWrong (w : World) (hG : Ground w) (xa : Option Addr) (n cap : Nat) (u v : Nat → ByteArray) (hr : Rf w xa n u v) (hlim : n ≤ 100000) (P : Nat → Bool) (hp : ∀ i, i < n → ∀ W, Ground W → Calls Tryz.prog 128 #[.agg #[.string (u i), .string (v i)]] W fun e W' => e = .returned (.bool (P i)) ∧ Below W.heap.size W W') :
    Calls Tryz.prog 69 #[.slice xa n cap, .func (.func 128) #[] #[]] w fun e w' => (∃ r : Int, e = .returned (.int .i64 r) ∧ decide (0 ≤ r) = (List.range n).any P) ∧ Below w.heap.size w w' := by
  go_enter Tryz.func69, Tryz.ntmps69
  go_wp2_with fail
  go_loopw [8] (fun iv wr => ∃ k : Nat, k ≤ n ∧ iv = .int .i64 (k : Int) ∧ (List.range k).any P = false ∧ Below w.heap.size w wr) (fun iv _ => n - (intOf iv).toNat)
  case atStart => exact ⟨0, Nat.zero_le _, rfl, rfl, Below.refl _ _⟩
  case round =>
    obtain ⟨k, hk, rfl, hl, hB⟩ := hrel
    have HL := Lib.hid hl
    clear hl
    by_cases hlt : k < n
    · have hr1 := hr.belowAt hB (Nat.le_refl _)
      obtain ⟨b, o, rfl, hb, hck, hck2⟩ := Rf.at hr1 hlt
      have HP := Lib.hid (hp k hlt wr (hG.below hB))
      obtain ⟨sk, hsk⟩ : ∃ sk, u k = sk := ⟨_, rfl⟩
      obtain ⟨tk, htk⟩ : ∃ tk, v k = tk := ⟨_, rfl⟩
      rw [hsk] at hck HP
      rw [htk] at hck2 HP
      clear hsk htk
      have HB := Lib.hid hB
      clear hr hr1 hp hB
      go_wp2_with fail
      refine HP.out.mono ?_
      rintro e w' ⟨rfl, hB1⟩
      have hB2 := HB.out.trans (hB1.mono HB.out.size)
      have hsu : (List.range (k + 1)).any P = ((List.range k).any P || P k) := by rw [List.range_succ, List.any_append]; simp
      cases hpk : P k with
      | true =>
        have HT := Lib.hid (show decide ((0 : Int) ≤ (k : Int)) = (List.range n).any P by
          rw [decide_eq_true (by omega)]
          exact (List.any_eq_true.2 ⟨k, List.mem_range.2 hlt, hpk⟩).symm)
        clear hsu hpk hB1
        go_wp2_with fail
        go_ret
        exact ⟨⟨_, rfl, HT.out⟩, hB2⟩
      | false =>
        have HT := Lib.hid (show (List.range (k + 1)).any P = false by rw [hsu, HL.out, hpk]; rfl)
        clear hsu hpk hB1
        go_wp2_with fail
        go_roundw
        case rel => exact ⟨k + 1, by omega, by simp, HT.out, hB2⟩
        case measure => simp [intOf]; omega
    · obtain rfl : k = n := by omega
      clear hr hp
      go_wp2_with fail
      go_ret
      exact ⟨⟨-1, rfl, by rw [HL.out]; rfl⟩, hB⟩

set_option maxRecDepth 100000 in
set_option maxHeartbeats 1000000 in
theorem hasWrong (w : World) (hG : Ground w) (xa : Option Addr) (n cap : Nat) (u v : Nat → ByteArray) (hr : Rf w xa n u v) (hlim : n ≤ 100000) (P : Nat → Bool) (hp : ∀ i, i < n → ∀ W, Ground W → Calls Tryz.prog 128 #[.agg #[.string (u i), .string (v i)]] W fun e W' => e = .returned (.bool (P i)) ∧ Below W.heap.size W W') :
    Calls Tryz.prog 24 #[.slice xa n cap, .func (.func 128) #[] #[]] w fun e w' => e = .returned (.bool ((List.range n).any P)) ∧ Below w.heap.size w w' := by
  have HI := Lib.hid (idxWrong w hG xa n cap u v hr hlim P hp)
  clear hp hr
  go_enter Tryz.func24, Tryz.ntmps24
  go_wp2_with fail
  refine HI.out.mono ?_
  rintro _ w1 ⟨⟨r, rfl, hd⟩, hB⟩
  have HD := Lib.hid hd
  clear hd
  go_wp2_with fail
  go_ret
  exact ⟨by rw [← HD.out]; simp, hB⟩

set_option maxRecDepth 100000 in
set_option maxHeartbeats 1000000 in
/-- slices.IndexFunc(l, a fraction of over 12 bytes) -/
theorem idxWide (w : World) (hG : Ground w) (xa : Option Addr) (n cap : Nat) (u v : Nat → ByteArray) (hr : Rf w xa n u v) (hlim : n ≤ 100000) (P : Nat → Bool) (hp : ∀ i, i < n → ∀ W, Ground W → Calls Tryz.prog 25 #[.agg #[.string (u i), .string (v i)]] W fun e W' => e = .returned (.bool (P i)) ∧ Below W.heap.size W W') :
    Calls Tryz.prog 69 #[.slice xa n cap, .func (.func 25) #[] #[]] w fun e w' => (∃ r : Int, e = .returned (.int .i64 r) ∧ decide (0 ≤ r) = (List.range n).any P) ∧ Below w.heap.size w w' := by
  go_enter Tryz.func69, Tryz.ntmps69
  go_wp2_with fail
  go_loopw [8] (fun iv wr => ∃ k : Nat, k ≤ n ∧ iv = .int .i64 (k : Int) ∧ (List.range k).any P = false ∧ Below w.heap.size w wr) (fun iv _ => n - (intOf iv).toNat)
  case atStart => exact ⟨0, Nat.zero_le _, rfl, rfl, Below.refl _ _⟩
  case round =>
    obtain ⟨k, hk, rfl, hl, hB⟩ := hrel
    have HL := Lib.hid hl
    clear hl
    by_cases hlt : k < n
    · have hr1 := hr.belowAt hB (Nat.le_refl _)
      obtain ⟨b, o, rfl, hb, hck, hck2⟩ := Rf.at hr1 hlt
      have HP := Lib.hid (hp k hlt wr (hG.below hB))
      obtain ⟨sk, hsk⟩ : ∃ sk, u k = sk := ⟨_, rfl⟩
      obtain ⟨tk, htk⟩ : ∃ tk, v k = tk := ⟨_, rfl⟩
      rw [hsk] at hck HP
      rw [htk] at hck2 HP
      clear hsk htk
      have HB := Lib.hid hB
      clear hr hr1 hp hB
      go_wp2_with fail
      refine HP.out.mono ?_
      rintro e w' ⟨rfl, hB1⟩
      have hB2 := HB.out.trans (hB1.mono HB.out.size)
      have hsu : (List.range (k + 1)).any P = ((List.range k).any P || P k) := by rw [List.range_succ, List.any_append]; simp
      cases hpk : P k with
      | true =>
        have HT := Lib.hid (show decide ((0 : Int) ≤ (k : Int)) = (List.range n).any P by
          rw [decide_eq_true (by omega)]
          exact (List.any_eq_true.2 ⟨k, List.mem_range.2 hlt, hpk⟩).symm)
        clear hsu hpk hB1
        go_wp2_with fail
        go_ret
        exact ⟨⟨_, rfl, HT.out⟩, hB2⟩
      | false =>
        have HT := Lib.hid (show (List.range (k + 1)).any P = false by rw [hsu, HL.out, hpk]; rfl)
        clear hsu hpk hB1
        go_wp2_with fail
        go_roundw
        case rel => exact ⟨k + 1, by omega, by simp, HT.out, hB2⟩
        case measure => simp [intOf]; omega
    · obtain rfl : k = n := by omega
      clear hr hp
      go_wp2_with fail
      go_ret
      exact ⟨⟨-1, rfl, by rw [HL.out]; rfl⟩, hB⟩

set_option maxRecDepth 100000 in
set_option maxHeartbeats 1000000 in
theorem hasWide (w : World) (hG : Ground w) (xa : Option Addr) (n cap : Nat) (u v : Nat → ByteArray) (hr : Rf w xa n u v) (hlim : n ≤ 100000) (P : Nat → Bool) (hp : ∀ i, i < n → ∀ W, Ground W → Calls Tryz.prog 25 #[.agg #[.string (u i), .string (v i)]] W fun e W' => e = .returned (.bool (P i)) ∧ Below W.heap.size W W') :
    Calls Tryz.prog 24 #[.slice xa n cap, .func (.func 25) #[] #[]] w fun e w' => e = .returned (.bool ((List.range n).any P)) ∧ Below w.heap.size w w' := by
  have HI := Lib.hid (idxWide w hG xa n cap u v hr hlim P hp)
  clear hp hr
  go_enter Tryz.func24, Tryz.ntmps24
  go_wp2_with fail
  refine HI.out.mono ?_
  rintro _ w1 ⟨⟨r, rfl, hd⟩, hB⟩
  have HD := Lib.hid hd
  clear hd
  go_wp2_with fail
  go_ret
  exact ⟨by rw [← HD.out]; simp, hB⟩

end Go.Proofs.YthhihdihkddakaaGreatDoor
