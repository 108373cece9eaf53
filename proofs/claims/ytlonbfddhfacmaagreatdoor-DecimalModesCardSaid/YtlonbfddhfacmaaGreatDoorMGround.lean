/- From the rows' list of package variables to what the walks ask, and a world that shows the list met. -/
import Derived.Test.YtlonbfddhfacmaaGreatDoorCards
import Derived.Test.YtlonbfddhfacmaaGreatDoorTie
import Derived.Test.YtlonbfddhfacmaaGreatDoorMD
import Derived.ProofKit
import Derived.OpenShut
import Derived.Deep.DeepHandedRow
import Derived.Deep.DeepWitnessRowRef
import Derived.Lib.LaidTab
import Derived.Lib.LaidIn
import Derived.Stop.LaidErr
import Derived.Shelf.Vars
import Derived.Lib.SmallJoins
namespace Go.Proofs.YtlonbfddhfacmaaGreatDoor
open Go.ChangeShapes Go.WideShapes Go.ChangeAt Go.RowKit

theorem own : ownKnob Tryz.prog.godebug = none := by kernel_rfl

/-- the variables that every row of the seat lists -/
abbrev listed : List (String × DataW Unit) := Rows.decimalRoundRow.laid

theorem gPow : Tryz.prog.globalNamed "internal/strconv.uint64pow10" = some 3 := by kernel_rfl
theorem gPowType : (Tryz.prog.globals[3]?).map (·.type) = some 182 := by kernel_rfl
theorem cellsPow : Tryz.prog.cellsOf 182 = 20 := by kernel_rfl
theorem cellsU64 : Tryz.prog.cellsOf 138 = 1 := by kernel_rfl
theorem underPow : Tryz.prog.underlying 182 = some (.array 20 138) := by kernel_rfl
theorem underU64 : Tryz.prog.underlying 138 = some (.int .u64) := by kernel_rfl

theorem cellsFrac : Tryz.prog.cellsOf 24 = 2 := by kernel_rfl
theorem underFrac : Tryz.prog.underlying 24 = some (.struct #[⟨"Num", 22, 0, false, "", "", 0⟩, ⟨"Den", 22, 1, false, "", "", 16⟩]) := by kernel_rfl

/-- WHAT THE LIST GIVES -/
theorem ground_of {W : World} (h : laidMetH Tryz.prog listed W) (hS : W.ShapedOpen Tryz.prog) : Ground W := by
  have h0 : laidMet Tryz.prog listed W := h
  exact ⟨Lib.tabIs_of_head (zs := Lib.pow10Tab) gPow gPowType underPow underU64 cellsU64 cellsPow h0.tail.tail,
    cell_of_shapedOpen_int (t := 3) (zero := #[.int .i64 0]) hS (of_decide_eq_true (by kernel_rfl)) (by kernel_rfl) rfl (by kernel_rfl) (by kernel_rfl) (by kernel_rfl)⟩

theorem small_bounds {n : Int} (h : (Lit.int .i8 n).wf = true) : -128 ≤ n ∧ n ≤ 127 := by
  unfold Lit.wf at h
  rw [Bool.and_eq_true, decide_eq_true_eq, decide_eq_true_eq] at h
  exact h

set_option maxRecDepth 100000 in
/-- a fraction as an argument: opened and shut -/
theorem open_frac {H : Type} {enc : TypeId × Value → H} {w : World} {r : Reach} {b0 base : Nat} {sp : Nat → Bool} {held : Bool} {v : Value} {d : DataW H} {ps : List MemPlace} (hval : Value.okWide Tryz.prog w r b0 24 v) (hd : DataW.Trod enc Tryz.prog w base sp held 24 v d ps) :
    ∃ a b : ByteArray, v = .agg #[.string a, .string b] ∧ d = .agg [.lit (.string a.data.toList), .lit (.string b.data.toList)] ∧ ps = [] ∧ a.size ≤ maxLen ∧ b.size ≤ maxLen := by
  obtain ⟨c0, c1, y0, y1, m, rfl, rfl, rfl, hy0, hy1⟩ := Joins.open_agg2 underFrac (by kernel_rfl) cellsFrac hval hd
  obtain ⟨a, e0, rfl, wa⟩ := DataW.trod_string Tryz.underlying22 hy0
  obtain ⟨b, e1, rfl, wb⟩ := DataW.trod_string Tryz.underlying22 hy1
  simp at e0 e1
  subst e0 e1
  exact ⟨a, b, rfl, rfl, rfl, wa, wb⟩
set_option maxRecDepth 100000 in
theorem shut_frac {H : Type} {enc : TypeId × Value → H} {w : World} {base : Nat} {sp : Nat → Bool} {held : Bool} {a b : ByteArray} (wa : a.size ≤ maxLen) (wb : b.size ≤ maxLen) :
    DataW.Trod enc Tryz.prog w base sp held 24 (.agg #[.string a, .string b]) (.agg [.lit (.string a.data.toList), .lit (.string b.data.toList)]) [] :=
  Joins.shut_agg2 (y0 := (.lit (.string a.data.toList), [])) (y1 := (.lit (.string b.data.toList), [])) underFrac (by kernel_rfl) cellsFrac
    ⟨1, by simp [DataW.trod, Tryz.underlying22, wa]⟩ ⟨1, by simp [DataW.trod, Tryz.underlying22, wb]⟩

theorem int_bounds {n : Int} (h : (Lit.int .i64 n).wf = true) : -9223372036854775808 ≤ n ∧ n ≤ 9223372036854775807 := by
  unfold Lit.wf at h
  rw [Bool.and_eq_true, decide_eq_true_eq, decide_eq_true_eq] at h
  exact h
theorem byte_bounds {n : Int} (h : (Lit.int .u8 n).wf = true) : 0 ≤ n ∧ n ≤ 255 := by
  unfold Lit.wf at h
  rw [Bool.and_eq_true, decide_eq_true_eq, decide_eq_true_eq] at h
  exact h

/-! ### A world that shows the list met -/
def lit1 : DataW Unit → List Value
  | .lit (.int k z) => [.int k z]
  | _ => []
def lit2 : DataW Unit → List Value
  | .agg l => l.flatMap lit1
  | d => lit1 d
def lit3 : DataW Unit → List Value
  | .agg l => l.flatMap lit2
  | d => lit1 d
noncomputable def laidWorld (os : Os) : World :=
  let w0 := World.holding Tryz.prog os ⟨#[], #[], []⟩
  let put (h : Array Obj) (g : Nat) (cs : List Value) : Array Obj := h.modify g fun
    | .cells _ t frozen => .cells cs.toArray t frozen
    | o => o
  let h3 := put w0.heap 3 (lit2 Rows.laid_internal_strconv_uint64pow10)
  let h4 := put h3 1 (lit2 Rows.laid_unicode_utf8_first)
  let h5 := put h4 2 (lit3 Rows.laid_unicode_utf8_acceptRanges)
  let h6 := put h5 4 (lit2 Rows.laid_math_bits_deBruijn32tab)
  let h7 := put h6 5 (lit2 Rows.laid_math_bits_deBruijn64tab)
  { w0 with heap := h7 }

set_option maxRecDepth 100000 in
theorem laid_in (os : Os) (args : Array Value) : LaidIn Tryz.prog ((laidWorld os).forCall (fun _ _ => 0) ⟨#[], args, []⟩).memory listed [4, 5, 3, 2, 1] :=
  LaidIn.of_run _ 8 (by kernel_rfl) (by kernel_rfl) (by kernel_rfl) (by kernel_rfl)
theorem laid_met (os : Os) (args : Array Value) : laidMet Tryz.prog listed ((laidWorld os).forCall (fun _ _ => 0) ⟨#[], args, []⟩).memory := (laid_in os args).met

end Go.Proofs.YtlonbfddhfacmaaGreatDoor
