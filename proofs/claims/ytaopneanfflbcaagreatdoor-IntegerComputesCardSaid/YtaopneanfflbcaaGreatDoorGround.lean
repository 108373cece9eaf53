/- From the rows' list of package variables to what the walks ask, and a world that shows the list met. -/
import Derived.Test.YtaopneanfflbcaaGreatDoorCards
import Derived.Test.YtaopneanfflbcaaGreatDoorTie
import Derived.Test.YtaopneanfflbcaaGreatDoorLaw
import Derived.ProofKit
import Derived.OpenShut
import Derived.Deep.DeepHandedRow
import Derived.Deep.DeepWitnessRowRef
import Derived.Lib.LaidTab
import Derived.Lib.LaidIn
import Derived.Stop.LaidErr
namespace Go.Proofs.YtaopneanfflbcaaGreatDoor
open Go.ChangeShapes Go.WideShapes Go.ChangeAt Go.RowKit

theorem own : ownKnob Tryz.prog.godebug = none := by kernel_rfl

/-- the variables that every row of the seat lists -/
abbrev listed : List (String × DataW Unit) := Rows.integerComputesRow.laid

theorem gPow : Tryz.prog.globalNamed "internal/strconv.uint64pow10" = some 3 := by kernel_rfl
theorem gSyn : Tryz.prog.globalNamed "strconv.ErrSyntax" = some 1 := by kernel_rfl
theorem gRng : Tryz.prog.globalNamed "strconv.ErrRange" = some 2 := by kernel_rfl
theorem gPowType : (Tryz.prog.globals[3]?).map (·.type) = some 122 := by kernel_rfl
theorem gSynType : (Tryz.prog.globals[1]?).map (·.type) = some 63 := by kernel_rfl
theorem gRngType : (Tryz.prog.globals[2]?).map (·.type) = some 63 := by kernel_rfl
theorem cellsPow : Tryz.prog.cellsOf 122 = 20 := by kernel_rfl
theorem cellsU64 : Tryz.prog.cellsOf 82 = 1 := by kernel_rfl
theorem cellsErr : Tryz.prog.cellsOf 119 = 1 := by kernel_rfl
theorem cellsStr : Tryz.prog.cellsOf 9 = 1 := by kernel_rfl
theorem underPow : Tryz.prog.underlying 122 = some (.array 20 82) := by kernel_rfl
theorem underU64 : Tryz.prog.underlying 82 = some (.int .u64) := by kernel_rfl
theorem rowErr (u : TypeId) (h : Tryz.prog.typeName? 3 u = some "*errors.errorString") : u = 117 :=
  typeName_ptr_named (nm := "errors.errorString") (by rw [show "*" ++ "errors.errorString" = "*errors.errorString" by decide]; kernel_rfl) (by kernel_rfl) (by decide) u (by rw [show "*" ++ "errors.errorString" = "*errors.errorString" by decide]; exact h)

/-- WHAT THE LIST GIVES -/
theorem ground_of {W : World} (h : laidMetH Tryz.prog listed W) : Ground W := by
  have h0 : laidMet Tryz.prog listed W := h
  have h2 := h0.tail.tail
  obtain ⟨a1, s1, hr, _, _, _⟩ := laid_sentinel h2.tail.tail gRng gRngType Tryz.underlying63 rowErr Tryz.underlying117 Tryz.underlying119 rfl rfl Tryz.underlying9 cellsErr cellsStr
  obtain ⟨a0, s0, hs, _, _, _⟩ := laid_sentinel h2.tail.tail.tail gSyn gSynType Tryz.underlying63 rowErr Tryz.underlying117 Tryz.underlying119 rfl rfl Tryz.underlying9 cellsErr cellsStr
  exact ⟨Lib.tabIs_of_head (zs := Lib.pow10Tab) gPow gPowType underPow underU64 cellsU64 cellsPow h2, ⟨_, _, hs⟩, ⟨_, _, hr⟩⟩

theorem int_bounds {n : Int} (h : (Lit.int .i64 n).wf = true) : -9223372036854775808 ≤ n ∧ n ≤ 9223372036854775807 := by
  unfold Lit.wf at h
  rw [Bool.and_eq_true, decide_eq_true_eq, decide_eq_true_eq] at h
  exact h
theorem byte_bounds {n : Int} (h : (Lit.int .u8 n).wf = true) : 0 ≤ n ∧ n ≤ 255 := by
  unfold Lit.wf at h
  rw [Bool.and_eq_true, decide_eq_true_eq, decide_eq_true_eq] at h
  exact h

/-! ### A world that shows the list met -/
def lit1 : DataW Unit → List Value
  | .lit (.int k z) => [.int k z]
  | _ => []
def lit2 : DataW Unit → List Value
  | .agg l => l.flatMap lit1
  | d => lit1 d
def lit3 : DataW Unit → List Value
  | .agg l => l.flatMap lit2
  | d => lit1 d
def textOf : DataW Unit → ByteArray
  | .iface _ (.ptr (.agg [.lit (.string l)])) => ⟨l.toArray⟩
  | _ => ⟨#[]⟩

noncomputable def low : Nat := (World.holding Tryz.prog default ⟨#[], #[], []⟩).heap.size
noncomputable def laidWorld (os : Os) : World :=
  let w0 := World.holding Tryz.prog os ⟨#[.cells #[.string (textOf Rows.laid_strconv_ErrSyntax)] 119, .cells #[.string (textOf Rows.laid_strconv_ErrRange)] 119], #[], []⟩
  let put (h : Array Obj) (g : Nat) (cs : List Value) : Array Obj := h.modify g fun
    | .cells _ t frozen => .cells cs.toArray t frozen
    | o => o
  let h1 := put w0.heap 1 [.iface 117 (.pointer (some ⟨low, 0, none⟩))]
  let h2 := put h1 2 [.iface 117 (.pointer (some ⟨low + 1, 0, none⟩))]
  let h3 := put h2 3 (lit2 Rows.laid_internal_strconv_uint64pow10)
  let h4 := put h3 4 (lit2 Rows.laid_unicode_utf8_first)
  let h5 := put h4 5 (lit3 Rows.laid_unicode_utf8_acceptRanges)
  let h6 := put h5 6 (lit2 Rows.laid_math_bits_deBruijn32tab)
  let h7 := put h6 7 (lit2 Rows.laid_math_bits_deBruijn64tab)
  { w0 with heap := h7 }

set_option maxRecDepth 100000 in
theorem laid_in (os : Os) (args : Array Value) : LaidIn Tryz.prog ((laidWorld os).forCall (fun _ _ => 0) ⟨#[], args, []⟩).memory listed [6, 7, 3, 5, 2, low + 1, 1, low, 4] :=
  LaidIn.of_run _ 8 (by kernel_rfl) (by kernel_rfl) (by kernel_rfl) (by kernel_rfl)
theorem laid_met (os : Os) (args : Array Value) : laidMet Tryz.prog listed ((laidWorld os).forCall (fun _ _ => 0) ⟨#[], args, []⟩).memory := (laid_in os args).met

end Go.Proofs.YtaopneanfflbcaaGreatDoor
