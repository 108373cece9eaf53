/- From the rows' list of package variables to what the walks ask, and a world that shows the list met. -/
import Derived.Test.YtaopneanfflbcaaDoorCards
import Derived.Test.YtaopneanfflbcaaDoorTie
import Derived.Test.YtaopneanfflbcaaDoorLaw
import Derived.ProofKit
import Derived.OpenShut
import Derived.Deep.DeepHandedRow
import Derived.Deep.DeepWitnessRowRef
import Derived.Lib.LaidTab
import Derived.Lib.LaidIn
import Derived.Stop.LaidErr
namespace Go.Proofs.YtaopneanfflbcaaDoor
open Go.ChangeShapes Go.WideShapes Go.ChangeAt Go.RowKit

theorem own : ownKnob Tryd.prog.godebug = none := by kernel_rfl

/-- the variables that every row of the seat lists -/
abbrev listed : List (String × DataW Unit) := Rows.integerMachineRow.laid

theorem gPow : Tryd.prog.globalNamed "internal/strconv.uint64pow10" = some 3 := by kernel_rfl
theorem gSyn : Tryd.prog.globalNamed "strconv.ErrSyntax" = some 0 := by kernel_rfl
theorem gRng : Tryd.prog.globalNamed "strconv.ErrRange" = some 1 := by kernel_rfl
theorem gPowType : (Tryd.prog.globals[3]?).map (·.type) = some 130 := by kernel_rfl
theorem gSynType : (Tryd.prog.globals[0]?).map (·.type) = some 51 := by kernel_rfl
theorem gRngType : (Tryd.prog.globals[1]?).map (·.type) = some 51 := by kernel_rfl
theorem cellsPow : Tryd.prog.cellsOf 130 = 20 := by kernel_rfl
theorem cellsU64 : Tryd.prog.cellsOf 91 = 1 := by kernel_rfl
theorem cellsErr : Tryd.prog.cellsOf 126 = 1 := by kernel_rfl
theorem cellsStr : Tryd.prog.cellsOf 9 = 1 := by kernel_rfl
theorem underPow : Tryd.prog.underlying 130 = some (.array 20 91) := by kernel_rfl
theorem underU64 : Tryd.prog.underlying 91 = some (.int .u64) := by kernel_rfl
theorem rowErr (u : TypeId) (h : Tryd.prog.typeName? 3 u = some "*errors.errorString") : u = 124 :=
  typeName_ptr_named (nm := "errors.errorString") (by rw [show "*" ++ "errors.errorString" = "*errors.errorString" by decide]; kernel_rfl) (by kernel_rfl) (by decide) u (by rw [show "*" ++ "errors.errorString" = "*errors.errorString" by decide]; exact h)

/-- WHAT THE LIST GIVES -/
theorem ground_of {W : World} (h : laidMetH Tryd.prog listed W) : Ground W := by
  have h0 : laidMet Tryd.prog listed W := h
  have h2 := h0.tail.tail
  obtain ⟨a1, s1, hr, _, _, _⟩ := laid_sentinel h2.tail.tail gRng gRngType Tryd.underlying51 rowErr Tryd.underlying124 Tryd.underlying126 rfl rfl Tryd.underlying9 cellsErr cellsStr
  obtain ⟨a0, s0, hs, _, _, _⟩ := laid_sentinel h2.tail.tail.tail gSyn gSynType Tryd.underlying51 rowErr Tryd.underlying124 Tryd.underlying126 rfl rfl Tryd.underlying9 cellsErr cellsStr
  exact ⟨Lib.tabIs_of_head (zs := Lib.pow10Tab) gPow gPowType underPow underU64 cellsU64 cellsPow h2, ⟨_, _, hs⟩, ⟨_, _, hr⟩⟩

theorem int_bounds {n : Int} (h : (Lit.int .i64 n).wf = true) : -9223372036854775808 ≤ n ∧ n ≤ 9223372036854775807 := by
  unfold Lit.wf at h
  rw [Bool.and_eq_true, decide_eq_true_eq, decide_eq_true_eq] at h
  exact h
theorem byte_bounds {n : Int} (h : (Lit.int .u8 n).wf = true) : 0 ≤ n ∧ n ≤ 255 := by
  unfold Lit.wf at h
  rw [Bool.and_eq_true, decide_eq_true_eq, decide_eq_true_eq] at h
  exact h

/-! ### A world that shows the list met -/
def lit1 : DataW Unit → List Value
  | .lit (.int k z) => [.int k z]
  | _ => []
def lit2 : DataW Unit → List Value
  | .agg l => l.flatMap lit1
  | d => lit1 d
def lit3 : DataW Unit → List Value
  | .agg l => l.flatMap lit2
  | d => lit1 d
def textOf : DataW Unit → ByteArray
  | .iface _ (.ptr (.agg [.lit (.string l)])) => ⟨l.toArray⟩
  | _ => ⟨#[]⟩

noncomputable def low : Nat := (World.holding Tryd.prog default ⟨#[], #[], []⟩).heap.size
noncomputable def laidWorld (os : Os) : World :=
  let w0 := World.holding Tryd.prog os ⟨#[.cells #[.string (textOf Rows.laid_strconv_ErrSyntax)] 126, .cells #[.string (textOf Rows.laid_strconv_ErrRange)] 126], #[], []⟩
  let put (h : Array Obj) (g : Nat) (cs : List Value) : Array Obj := h.modify g fun
    | .cells _ t frozen => .cells cs.toArray t frozen
    | o => o
  let h1 := put w0.heap 0 [.iface 124 (.pointer (some ⟨low, 0, none⟩))]
  let h2 := put h1 1 [.iface 124 (.pointer (some ⟨low + 1, 0, none⟩))]
  let h3 := put h2 3 (lit2 Rows.laid_internal_strconv_uint64pow10)
  let h4 := put h3 4 (lit2 Rows.laid_unicode_utf8_first)
  let h5 := put h4 5 (lit3 Rows.laid_unicode_utf8_acceptRanges)
  let h6 := put h5 6 (lit2 Rows.laid_math_bits_deBruijn32tab)
  let h7 := put h6 7 (lit2 Rows.laid_math_bits_deBruijn64tab)
  { w0 with heap := h7 }

set_option maxRecDepth 100000 in
theorem laid_in (os : Os) (args : Array Value) : LaidIn Tryd.prog ((laidWorld os).forCall (fun _ _ => 0) ⟨#[], args, []⟩).memory listed [6, 7, 3, 5, 1, low + 1, 0, low, 4] :=
  LaidIn.of_run _ 8 (by kernel_rfl) (by kernel_rfl) (by kernel_rfl) (by kernel_rfl)
theorem laid_met (os : Os) (args : Array Value) : laidMet Tryd.prog listed ((laidWorld os).forCall (fun _ _ => 0) ⟨#[], args, []⟩).memory := (laid_in os args).met

end Go.Proofs.YtaopneanfflbcaaDoor
