/- From the rows' list of package variables to what the walks ask, and a world that shows the list met. -/
import Derived.Test.YtgpjadlnfofppaaDoorCards
import Derived.Test.YtgpjadlnfofppaaDoorTie
import Derived.Test.YtgpjadlnfofppaaDoorYBase
import Derived.ProofKit
import Derived.OpenShut
import Derived.Deep.DeepHandedRow
import Derived.Deep.DeepWitnessRowRef
import Derived.Lib.LaidTab
import Derived.Lib.LaidIn
import Derived.Stop.LaidErr
import Derived.Shelf.Vars
import Derived.Lib.SmallJoins
namespace Go.Proofs.YtgpjadlnfofppaaDoor
open Go.ChangeShapes Go.WideShapes Go.ChangeAt Go.RowKit

theorem own : ownKnob Tryd.prog.godebug = none := by kernel_rfl

/-- the variables that every row of the seat lists -/
abbrev listed : List (String × DataW Unit) := Rows.datePartsRow.laid

theorem gPow : Tryd.prog.globalNamed "internal/strconv.uint64pow10" = some 1 := by kernel_rfl
theorem gPowType : (Tryd.prog.globals[1]?).map (·.type) = some 86 := by kernel_rfl
theorem cellsPow : Tryd.prog.cellsOf 86 = 20 := by kernel_rfl
theorem cellsU64 : Tryd.prog.cellsOf 80 = 1 := by kernel_rfl
theorem underPow : Tryd.prog.underlying 86 = some (.array 20 80) := by kernel_rfl
theorem underU64 : Tryd.prog.underlying 80 = some (.int .u64) := by kernel_rfl
theorem gLenType : (Tryd.prog.globals[0]?).map (·.type) = some 61 := by kernel_rfl
theorem cellsLen : Tryd.prog.cellsOf 61 = 12 := by kernel_rfl
theorem cellsInt : Tryd.prog.cellsOf 3 = 1 := by kernel_rfl
theorem underLen : Tryd.prog.underlying 61 = some (.array 12 3) := by kernel_rfl
theorem underInt : Tryd.prog.underlying 3 = some (.int .i64) := by kernel_rfl

theorem laidOut' : laidOutB Tryd.prog = true := by kernel_rfl
/-- WHAT THE LIST GIVES -/
theorem ground_of {W : World} (h : laidMetH Tryd.prog listed W) : Ground W := by
  have h0 : laidMet Tryd.prog listed W := h
  exact ⟨Lib.tabIs_of_head (zs := tens) gPow gPowType underPow underU64 cellsU64 cellsPow h0.tail.tail,
    Lib.tabIs_of_head (zs := lens) gLen gLenType underLen underInt cellsInt cellsLen h0.tail.tail.tail⟩

theorem int_bounds {n : Int} (h : (Lit.int .i64 n).wf = true) : -9223372036854775808 ≤ n ∧ n ≤ 9223372036854775807 := by
  unfold Lit.wf at h
  rw [Bool.and_eq_true, decide_eq_true_eq, decide_eq_true_eq] at h
  exact h
theorem word_bounds {n : Int} (h : (Lit.int .u16 n).wf = true) : 0 ≤ n ∧ n ≤ 65535 := by
  unfold Lit.wf at h
  rw [Bool.and_eq_true, decide_eq_true_eq, decide_eq_true_eq] at h
  exact h
theorem short_bounds {n : Int} (h : (Lit.int .i16 n).wf = true) : -32768 ≤ n ∧ n ≤ 32767 := by
  unfold Lit.wf at h
  rw [Bool.and_eq_true, decide_eq_true_eq, decide_eq_true_eq] at h
  exact h

/-! ### A world that shows the list met -/
def lit1 : DataW Unit → List Value
  | .lit (.int k z) => [.int k z]
  | _ => []
def lit2 : DataW Unit → List Value
  | .agg l => l.flatMap lit1
  | d => lit1 d
noncomputable def laidWorld (os : Os) : World :=
  let w0 := World.holding Tryd.prog os ⟨#[], #[], []⟩
  let put (h : Array Obj) (g : Nat) (cs : List Value) : Array Obj := h.modify g fun
    | .cells _ t frozen => .cells cs.toArray t frozen
    | o => o
  let h3 := put w0.heap 1 (lit2 Rows.laid_internal_strconv_uint64pow10)
  let h4 := put h3 0 (lit2 Rows.laid_tranche_date_lengths)
  let h6 := put h4 2 (lit2 Rows.laid_math_bits_deBruijn32tab)
  let h7 := put h6 3 (lit2 Rows.laid_math_bits_deBruijn64tab)
  { w0 with heap := h7 }

set_option maxRecDepth 100000 in
theorem laid_in (os : Os) (args : Array Value) : LaidIn Tryd.prog ((laidWorld os).forCall (fun _ _ => 0) ⟨#[], args, []⟩).memory listed [2, 3, 1, 0] :=
  LaidIn.of_run _ 8 (by kernel_rfl) (by kernel_rfl) (by kernel_rfl) (by kernel_rfl)
theorem laid_met (os : Os) (args : Array Value) : laidMet Tryd.prog listed ((laidWorld os).forCall (fun _ _ => 0) ⟨#[], args, []⟩).memory := (laid_in os args).met

end Go.Proofs.YtgpjadlnfofppaaDoor
