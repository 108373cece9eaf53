/- Rows of numbers in memory: a block that a call made whole, and slices that are only read. -/
import Derived.Test.YtldohkfomdcpoaaGreatDoorSmall
import Derived.Deep.OwnRows
namespace Go.Proofs.YtldohkfomdcpoaaGreatDoor
open Go.RowKit

/-- block b holds the numbers zs, nothing of it frozen -/
def Row (w : World) (b : Nat) (zs : List Int) : Prop := w.heap[b]? = some (.cells (zs.map (Value.int .i64)).toArray 3 (0, 0))

/-- the numbers zs lie in block b from place o on: they can be read -/
structure Sl (w : World) (b o cap : Nat) (zs : List Int) : Prop where
  lt : b < w.heap.size
  le : zs.length ≤ cap
  max : cap ≤ 1099511627776
  cell : ∀ i, i < zs.length → w.cell? ⟨b, o + i, none⟩ = some (.int .i64 (zs.getD i 0))

theorem Row.lt {w : World} {b : Nat} {zs : List Int} (h : Row w b zs) : b < w.heap.size := by
  rcases Nat.lt_or_ge b w.heap.size with h' | h'
  · exact h'
  · unfold Row at h; rw [Array.getElem?_eq_none h'] at h; simp at h
theorem Row.cell {w : World} {b : Nat} {zs : List Int} (h : Row w b zs) {i : Nat} (hi : i < zs.length) : w.cell? ⟨b, i, none⟩ = some (.int .i64 (zs.getD i 0)) := by
  rw [cell_of_row w b i _ _ _ h]
  simp [hi]
theorem Row.frozen {w : World} {b : Nat} {zs : List Int} (h : Row w b zs) (i : Nat) : w.frozen? ⟨b, i, none⟩ = false := frozen_of_row w b i _ _ h
theorem Row.of_block {w w' : World} {b : Nat} {zs : List Int} (h : Row w b zs) (e : w'.heap[b]? = w.heap[b]?) : Row w' b zs := by
  unfold Row at *; rw [e]; exact h
theorem Row.set {w : World} {b : Nat} {zs : List Int} (h : Row w b zs) (i : Nat) (v : Int) : Row (w.setCell ⟨b, i, none⟩ (.int .i64 v)) b (zs.set i v) := by
  have := heap_setCell_same w b i _ _ (.int .i64 v) h
  unfold Row
  rw [this, List.map_set]
  simp
theorem Row.below {B : Nat} {w w' : World} {b : Nat} {zs : List Int} (h : Row w b zs) (hb : Below B w w') (hlt : b < B) : Row w' b zs := h.of_block (hb.block b hlt)
theorem Row.sl {w : World} {b : Nat} {zs : List Int} (h : Row w b zs) {cap : Nat} (hc : zs.length ≤ cap) (hm : cap ≤ 1099511627776) : Sl w b 0 cap zs :=
  ⟨h.lt, hc, hm, fun i hi => by rw [Nat.zero_add]; exact h.cell hi⟩
theorem Row.part {w : World} {b o : Nat} {zs ys : List Int} (h : Row w b zs) (e : ∀ i, i < ys.length → o + i < zs.length ∧ ys.getD i 0 = zs.getD (o + i) 0) {cap : Nat} (hc : ys.length ≤ cap) (hm : cap ≤ 1099511627776) : Sl w b o cap ys :=
  ⟨h.lt, hc, hm, fun i hi => by rw [h.cell (e i hi).1, (e i hi).2]⟩

theorem Sl.below {B : Nat} {w w' : World} {b o cap : Nat} {zs : List Int} (h : Sl w b o cap zs) (hb : Below B w w') (hlt : b < B) : Sl w' b o cap zs :=
  ⟨Nat.lt_of_lt_of_le h.lt hb.size, h.le, h.max, fun i hi => (hb.cell (p := ⟨b, o + i, none⟩) hlt).trans (h.cell i hi)⟩
theorem Sl.grown {w w' : World} {b o cap : Nat} {zs : List Int} {row : Option Nat} (h : Sl w b o cap zs) (hg : w.grownBy w' row) (hne : some b ≠ row) : Sl w' b o cap zs :=
  ⟨Nat.lt_of_lt_of_le h.lt hg.size, h.le, h.max, fun i hi => hg.cell (h.cell i hi) hne⟩
theorem Row.grown {w w' : World} {b : Nat} {zs : List Int} {row : Option Nat} (h : Row w b zs) (hg : w.grownBy w' row) (hne : some b ≠ row) : Row w' b zs := h.of_block (hg.block b h.lt hne)

theorem grown_refl (w : World) (row : Option Nat) : w.grownBy w row := ⟨rfl, rfl, rfl, Nat.le_refl _, fun _ _ _ => rfl⟩
theorem grown_set {w w' : World} {b i : Nat} {v : Value} (h : w.grownBy w' (some b)) : w.grownBy (w'.setCell ⟨b, i, none⟩ v) (some b) :=
  ⟨h.os, h.tape, h.output, by simpa [World.setCell] using h.size, fun k hk hne => (Below.heap_setCell w' _ _ k (fun e => hne (by rw [e]))).trans (h.block k hk hne)⟩
theorem grown_trans {a b c : World} {row : Option Nat} (h : a.grownBy b row) (k : b.grownBy c row) : a.grownBy c row :=
  ⟨k.os.trans h.os, k.tape.trans h.tape, k.output.trans h.output, Nat.le_trans h.size k.size, fun i hi hne => (k.block i (Nat.lt_of_lt_of_le hi h.size) hne).trans (h.block i hi hne)⟩
theorem grown_of_below {w w' : World} (h : Below w.heap.size w w') (row : Option Nat) : w.grownBy w' row := ⟨h.os, h.tape, h.output, h.size, fun i hi _ => h.block i hi⟩
theorem grown_drewN {a w : World} {row : Option Nat} (h : a.grownBy w row) (n : Nat) : a.grownBy (w.drewN n) row := ⟨h.os, h.tape, h.output, h.size, h.block⟩
theorem below_drewN {B : Nat} {a w : World} (h : Below B a w) (n : Nat) : Below B a (w.drewN n) := ⟨h.os, h.tape, h.output, h.size, h.block⟩
theorem Row.drewN {w : World} {b : Nat} {zs : List Int} (h : Row w b zs) (n : Nat) : Row (w.drewN n) b zs := h
theorem Sl.drewN {w : World} {b o cap : Nat} {zs : List Int} (h : Sl w b o cap zs) (n : Nat) : Sl (w.drewN n) b o cap zs := ⟨h.lt, h.le, h.max, h.cell⟩

/-- a row of n zeros, as make lays it -/
def zeroRow (n : Nat) : Obj := .cells (madeCells #[.int .i64 0] n) 3
theorem zeroRow_eq (n : Nat) : zeroRow n = .cells ((List.replicate n 0).map (Value.int .i64)).toArray 3 (0, 0) := by
  unfold zeroRow
  have : madeCells #[Value.int .i64 0] n = ((List.replicate n 0).map (Value.int .i64)).toArray := by
    apply Array.toList_inj.1; rw [toList_madeCells_one]; simp
  rw [this]
theorem Row.made (w : World) (n : Nat) : Row (w.alloc (zeroRow n)) w.heap.size (List.replicate n 0) := by
  unfold Row; rw [zeroRow_eq, heap_alloc_new]
theorem Row.alloc {w : World} {b : Nat} {zs : List Int} (h : Row w b zs) (o : Obj) : Row (w.alloc o) b zs := h.of_block (Below.heap_alloc w o b h.lt)
theorem Sl.alloc {w : World} {b o cap : Nat} {zs : List Int} (h : Sl w b o cap zs) (ob : Obj) : Sl (w.alloc ob) b o cap zs :=
  h.below ((Below.refl w.heap.size w).alloc (Nat.le_refl _) ob) h.lt

theorem Row.setOther {w : World} {b : Nat} {zs : List Int} (h : Row w b zs) {a : Addr} (hne : b ≠ a.block) (v : Value) : Row (w.setCell a v) b zs := h.of_block (Below.heap_setCell w a v b hne)
theorem Sl.setOther {w : World} {b o cap : Nat} {zs : List Int} (h : Sl w b o cap zs) {a : Addr} (hne : b ≠ a.block) (v : Value) : Sl (w.setCell a v) b o cap zs :=
  ⟨by simpa [World.setCell] using h.lt, h.le, h.max, fun i hi => (World.cell?_of_block (w := w) (a := ⟨b, o + i, none⟩) (Below.heap_setCell w a v b hne)).trans (h.cell i hi)⟩

theorem info_int : (Tryz.prog.info? 3).map (fun i => (i.zero, i.size, i.bytes)) = some (some (.int .i64 0), 1, 8) := by kernel_rfl

/-- make([]int, n), for every n that is not great -/
theorem run_makeInts (n : Nat) (hn : n ≤ 1099511627776) (w : World) :
    (Instr.makeSlice 80 (.int .i64 (n : Int)) (.int .i64 (n : Int))).run Tryz.prog w = .ok (.slice (some ⟨w.heap.size, 0, none⟩) n n) (w.alloc (zeroRow n)) := by
  obtain ⟨i0, hi, hz0, hz1, hz2⟩ := info_parts info_int
  have hr := run_make (P := Tryz.prog) w 80 3 i0 (.int .i64 0) Tryz.underlying80 hi hz0 .i64 .i64 n n (by omega) (by omega) (by rw [hz2]; omega) (by omega)
  simp only [Int.toNat_natCast] at hr
  rw [hr, hz1]
  simp [zeroRow, Value.cells]

end Go.Proofs.YtldohkfomdcpoaaGreatDoor
