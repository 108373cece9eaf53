/- What the walks of layer 6 share: the tables that are read, and how they last while memory is made. -/
import Derived.Test.YtgpjadlnfofppaaDoorProg
import Derived.WalkKit
import Derived.WalkSpells
import Derived.WalkLawsBesides
import Derived.Lib.Hide
import Derived.Lib.LaidTab
import Derived.IntWalk
import Derived.KernelRfl
import Derived.Outline
import Derived.Deep.Cut
import Derived.Test.YtgpjadlnfofppaaDoorDac
namespace Go.Proofs.YtgpjadlnfofppaaDoor
open Go.RowKit

theorem var_below {P : Program} {w w' : World} {name : String} {cs : Array Value} (h : w.var? P name = some cs) (hb : Below w.heap.size w w') : w'.var? P name = some cs := by
  unfold World.var? at *
  cases hg : P.globalNamed name with
  | none => simp [hg] at h
  | some g =>
    simp only [hg, Option.bind_some] at h ⊢
    have hlt : g < w.heap.size := by
      rcases Nat.lt_or_ge g w.heap.size with h' | h'
      · exact h'
      · rw [Array.getElem?_eq_none h'] at h; simp at h
    rw [hb.block g hlt]
    exact h

/-- the numbers of days of the months, as the program's table has them -/
def lens : List Int := [31, 28, 31, 30, 31, 30, 31, 31, 30, 31, 30, 31]
/-- the table of powers of ten -/
def tens : List Int := [1, 10, 100, 1000, 10000, 100000, 1000000, 10000000, 100000000, 1000000000, 10000000000, 100000000000, 1000000000000, 10000000000000, 100000000000000, 1000000000000000, 10000000000000000, 100000000000000000, 1000000000000000000, 10000000000000000000]
/-- the package variables hold what their texts lay -/
structure Ground (w : World) : Prop where
  tab : Lib.TabIs Tryd.prog w "internal/strconv.uint64pow10" .u64 tens
  len : Lib.TabIs Tryd.prog w "tranche/date.lengths" .i64 lens
theorem Ground.below {w w' : World} (h : Ground w) (hb : Below w.heap.size w w') : Ground w' :=
  ⟨var_below h.tab hb, var_below h.len hb⟩
theorem gLen : Tryd.prog.globalNamed "tranche/date.lengths" = some 0 := by kernel_rfl
theorem Ground.month {w : World} (h : Ground w) (i : Nat) (hi : i < 12) : w.cell? ⟨0, i, none⟩ = some (.int .i64 (lens.getD i 0)) := h.len.cell gLen i hi

theorem ret_int {k : IntKind} {a b : Int} (h : a = b) : Ending.returned (.int k a) = .returned (.int k b) := by rw [h]
theorem ret_bool {a b : Bool} (h : a = b) : Ending.returned (.bool a) = .returned (.bool b) := by rw [h]
theorem size_toList (s : ByteArray) : s.data.toList.length = s.size := rfl
theorem data_toList (l : List UInt8) : (ByteArray.mk l.toArray).data.toList = l := rfl

end Go.Proofs.YtgpjadlnfofppaaDoor
