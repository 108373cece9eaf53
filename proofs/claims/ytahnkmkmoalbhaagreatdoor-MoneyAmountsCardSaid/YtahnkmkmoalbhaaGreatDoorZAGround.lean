/- From the rows' list of package variables to what the walks ask, and a world that shows the list met. -/
import Derived.Test.YtahnkmkmoalbhaaGreatDoorCards
import Derived.Test.YtahnkmkmoalbhaaGreatDoorTie
import Derived.Test.YtahnkmkmoalbhaaGreatDoorZAC
import Derived.Test.YtahnkmkmoalbhaaGreatDoorZAJ
import Derived.Deep.DeepHandedRow
import Derived.Deep.DeepWitnessRowRef
import Derived.Lib.LaidIn
import Derived.Lib.LaidTab
import Derived.Lib.SmallJoins
import Derived.OpenShut
import Derived.ProofKit
import Derived.Shelf.Vars
import Derived.Stop.LaidErr
namespace Go.Proofs.YtahnkmkmoalbhaaGreatDoor
open Go.ChangeShapes Go.WideShapes Go.ChangeAt Go.RowKit

theorem own : ownKnob Tryz.prog.godebug = none := by kernel_rfl

/-- the variables that every row of the seat lists -/
abbrev listed : List (String × DataW Unit) := Rows.moneySumsRow.laid

theorem gPow : Tryz.prog.globalNamed "internal/strconv.uint64pow10" = some 1 := by kernel_rfl
theorem gPowType : (Tryz.prog.globals[1]?).map (·.type) = some 203 := by kernel_rfl
theorem cellsPow : Tryz.prog.cellsOf 203 = 20 := by kernel_rfl
theorem cellsU64 : Tryz.prog.cellsOf 181 = 1 := by kernel_rfl
theorem underPow : Tryz.prog.underlying 203 = some (.array 20 181) := by kernel_rfl
theorem underU64 : Tryz.prog.underlying 181 = some (.int .u64) := by kernel_rfl

theorem laidOut' : laidOutB Tryz.prog = true := by kernel_rfl
/-- WHAT THE LIST GIVES -/
theorem ground_of {W : World} (h : laidMetH Tryz.prog listed W) (hS : W.ShapedOpen Tryz.prog) : Ground W := by
  have h0 : laidMet Tryz.prog listed W := h
  exact ⟨Lib.tabIs_of_head (zs := Lib.pow10Tab) gPow gPowType underPow underU64 cellsU64 cellsPow h0.tail.tail,
    cell_of_shapedOpen_int (t := 3) (zero := #[.int .i64 0]) hS (of_decide_eq_true (by kernel_rfl)) (by kernel_rfl) rfl (by kernel_rfl) (by kernel_rfl) (by kernel_rfl)⟩

theorem byte_bounds {n : Int} (h : (Lit.int .u8 n).wf = true) : 0 ≤ n ∧ n ≤ 255 := by
  unfold Lit.wf at h
  rw [Bool.and_eq_true, decide_eq_true_eq, decide_eq_true_eq] at h
  exact h

/-! ### A world that shows the list met -/
def lit1 : DataW Unit → List Value
  | .lit (.int k z) => [.int k z]
  | _ => []
def lit2 : DataW Unit → List Value
  | .agg l => l.flatMap lit1
  | d => lit1 d
def lit3 : DataW Unit → List Value
  | .agg l => l.flatMap lit2
  | d => lit1 d
noncomputable def laidWorld (os : Os) : World :=
  let w0 := World.holding Tryz.prog os ⟨#[], #[], []⟩
  let put (h : Array Obj) (g : Nat) (cs : List Value) : Array Obj := h.modify g fun
    | .cells _ t frozen => .cells cs.toArray t frozen
    | o => o
  let h3 := put w0.heap 1 (lit2 Rows.laid_internal_strconv_uint64pow10)
  let h4 := put h3 2 (lit2 Rows.laid_unicode_utf8_first)
  let h5 := put h4 3 (lit3 Rows.laid_unicode_utf8_acceptRanges)
  let h6 := put h5 4 (lit2 Rows.laid_math_bits_deBruijn32tab)
  let h7 := put h6 5 (lit2 Rows.laid_math_bits_deBruijn64tab)
  { w0 with heap := h7 }

set_option maxRecDepth 100000 in
theorem laid_in (os : Os) (args : Array Value) : LaidIn Tryz.prog ((laidWorld os).forCall (fun _ _ => 0) ⟨#[], args, []⟩).memory listed [4, 5, 1, 3, 2] :=
  LaidIn.of_run _ 8 (by kernel_rfl) (by kernel_rfl) (by kernel_rfl) (by kernel_rfl)
theorem laid_met (os : Os) (args : Array Value) : laidMet Tryz.prog listed ((laidWorld os).forCall (fun _ _ => 0) ⟨#[], args, []⟩).memory := (laid_in os args).met

end Go.Proofs.YtahnkmkmoalbhaaGreatDoor
