/- From the rows' list of package variables to what the walks ask, and a world that shows the list met. -/
import Derived.Test.YthhihdihkddakaaGreatDoorCards
import Derived.Test.YthhihdihkddakaaGreatDoorTie
import Derived.Test.YthhihdihkddakaaGreatDoorZShO
import Derived.Carry
import Derived.Deep.DeepHandedRow
import Derived.Deep.DeepWitnessRowRef
import Derived.Deep.SlicePairs
import Derived.Deep.Strs
import Derived.Lib.LaidIn
import Derived.Lib.LaidTab
import Derived.Lib.SmallJoins
import Derived.OpenShut
import Derived.ProofKit
import Derived.Shelf.Vars
import Derived.Stop.LaidErr
namespace Go.Proofs.YthhihdihkddakaaGreatDoor
open Go.ChangeShapes Go.WideShapes Go.ChangeAt Go.RowKit

theorem own : ownKnob Tryz.prog.godebug = none := by kernel_rfl

/-- the variables that every row of the seat lists -/
abbrev listed : List (String × DataW Unit) := Rows.allocateSplitRow.laid

theorem gPow : Tryz.prog.globalNamed "internal/strconv.uint64pow10" = some 3 := by kernel_rfl
theorem gSyn : Tryz.prog.globalNamed "strconv.ErrSyntax" = some 1 := by kernel_rfl
theorem gRng : Tryz.prog.globalNamed "strconv.ErrRange" = some 2 := by kernel_rfl
theorem gPowType : (Tryz.prog.globals[3]?).map (·.type) = some 193 := by kernel_rfl
theorem gSynType : (Tryz.prog.globals[1]?).map (·.type) = some 139 := by kernel_rfl
theorem gRngType : (Tryz.prog.globals[2]?).map (·.type) = some 139 := by kernel_rfl
theorem cellsPow : Tryz.prog.cellsOf 193 = 20 := by kernel_rfl
theorem cellsU64 : Tryz.prog.cellsOf 149 = 1 := by kernel_rfl
theorem cellsErr : Tryz.prog.cellsOf 205 = 1 := by kernel_rfl
theorem cellsStr : Tryz.prog.cellsOf 9 = 1 := by kernel_rfl
theorem underPow : Tryz.prog.underlying 193 = some (.array 20 149) := by kernel_rfl
theorem underU64 : Tryz.prog.underlying 149 = some (.int .u64) := by kernel_rfl
theorem rowErr (u : TypeId) (h : Tryz.prog.typeName? 3 u = some "*errors.errorString") : u = 203 :=
  typeName_ptr_named (nm := "errors.errorString") (by rw [show "*" ++ "errors.errorString" = "*errors.errorString" by decide]; kernel_rfl) (by kernel_rfl) (by decide) u (by rw [show "*" ++ "errors.errorString" = "*errors.errorString" by decide]; exact h)

/-- WHAT THE LIST GIVES -/
theorem ground_of {W : World} (h : laidMetH Tryz.prog listed W) (hS : W.ShapedOpen Tryz.prog) : Ground W := by
  have h0 : laidMet Tryz.prog listed W := h
  have h2 := h0.tail.tail
  obtain ⟨a1, s1, hr, _, _, _⟩ := laid_sentinel h2.tail.tail gRng gRngType Tryz.underlying139 rowErr Tryz.underlying203 Tryz.underlying205 rfl rfl Tryz.underlying9 cellsErr cellsStr
  obtain ⟨a0, s0, hs, _, _, _⟩ := laid_sentinel h2.tail.tail.tail gSyn gSynType Tryz.underlying139 rowErr Tryz.underlying203 Tryz.underlying205 rfl rfl Tryz.underlying9 cellsErr cellsStr
  exact ⟨Lib.tabIs_of_head (zs := Lib.pow10Tab) gPow gPowType underPow underU64 cellsU64 cellsPow h2, ⟨_, _, hs⟩, ⟨_, _, hr⟩, cell_of_shapedOpen_int (t := 3) (zero := #[.int .i64 0]) hS (of_decide_eq_true (by kernel_rfl)) (by kernel_rfl) rfl (by kernel_rfl) (by kernel_rfl) (by kernel_rfl)⟩

theorem cellsFrac : Tryz.prog.cellsOf 36 = 2 := by kernel_rfl
theorem cellsInt : Tryz.prog.cellsOf 22 = 1 := by kernel_rfl
theorem underFrac : Tryz.prog.underlying 36 = some (.struct #[⟨"Num", 22, 0, false, "", "", 0⟩, ⟨"Den", 22, 1, false, "", "", 16⟩]) := by kernel_rfl
theorem laidOut' : laidOutB Tryz.prog = true := by kernel_rfl

set_option maxRecDepth 100000 in
/-- a slice of strings as an argument -/
theorem open_Ints {H : Type} {enc : TypeId × Value → H} {w : World} {r : Reach} {b0 : Nat} {v : Value} {d : DataW H} {ps : List MemPlace} (hval : Value.okWide Tryz.prog w r b0 23 v) (hd : DataW.Trod enc Tryz.prog w 0 (fun _ => true) true 23 v d ps) :
    ∃ xa n cap s, v = .slice xa n cap ∧ Rs w xa n s ∧ n ≤ 9223372036854775807 ∧ n ≤ cap := by
  obtain ⟨a0, len, cap, rfl⟩ := okWide_slice Tryz.underlying23 hval
  obtain ⟨fuel, hf⟩ := hd
  rcases Go.Deep.open_strs Tryz.underlying23 Tryz.underlying22 cellsInt hf with ⟨hcs, hx⟩ | ⟨a, len', cap', m, Sx, hcs, _, hl, hm, hmm, hx, hcell⟩
  · simp [Value.cells] at hcs
    obtain ⟨rfl, rfl, rfl⟩ := hcs
    exact ⟨none, 0, 0, fun _ => ⟨#[]⟩, rfl, Rc.nil _ _ _, by omega, by omega⟩
  · simp [Value.cells] at hcs
    obtain ⟨rfl, rfl, rfl⟩ := hcs
    simp only [if_true] at hmm
    have hmm2 : cap = m := hmm.symm
    subst hmm2
    refine ⟨some a, len, cap, Sx, rfl, ⟨fun h0 => ?_⟩, by unfold maxLen at hm; omega, hl⟩
    obtain ⟨b, off, spot⟩ := a
    have hspot : spot = none := by simpa [Addr.add] using World.cell?_spot (hcell 0 (by omega)).1
    subst hspot
    have hc : ∀ i, i < len → w.cell? ⟨b, off + i, none⟩ = some (.string (Sx i)) := fun i hi => by
      have := (hcell i (by omega)).1
      rwa [show (⟨b, off, none⟩ : Addr).add i = ⟨b, off + i, none⟩ by unfold Addr.add; split <;> simp_all] at this
    exact ⟨b, off, rfl, World.block_lt_of_cell? w ⟨b, off + 0, none⟩ (hc 0 h0), hc⟩
set_option maxRecDepth 100000 in
/-- a slice of fractions as an argument -/
theorem open_Fracs {H : Type} {enc : TypeId × Value → H} {w : World} {r : Reach} {b0 : Nat} {v : Value} {d : DataW H} {ps : List MemPlace} (hval : Value.okWide Tryz.prog w r b0 29 v) (hd : DataW.Trod enc Tryz.prog w 0 (fun _ => true) true 29 v d ps) :
    ∃ xa n cap s t, v = .slice xa n cap ∧ Rf w xa n s t ∧ n ≤ 9223372036854775807 ∧ n ≤ cap := by
  obtain ⟨a0, len, cap, rfl⟩ := okWide_slice Tryz.underlying29 hval
  obtain ⟨fuel, hf⟩ := hd
  rcases Go.Deep.open_slice_pairs Tryz.underlying29 underFrac cellsFrac rfl rfl cellsInt cellsInt hf with ⟨hcs, hx⟩ | ⟨a, len', cap', m, n, V0, V1, D0, D1, P0, P1, hcs, _, hl, hm, hmm, hx, hcell⟩
  · simp [Value.cells] at hcs
    obtain ⟨rfl, rfl, rfl⟩ := hcs
    exact ⟨none, 0, 0, fun _ => ⟨#[]⟩, fun _ => ⟨#[]⟩, rfl, Rc.nil _ _ _, by omega, by omega⟩
  · simp [Value.cells] at hcs
    obtain ⟨rfl, rfl, rfl⟩ := hcs
    simp only [if_true] at hmm
    have hmm2 : cap = m := hmm.symm
    subst hmm2
    have each : ∀ i, i < len → ∃ q : ByteArray × ByteArray, V0 i = .string q.1 ∧ V1 i = .string q.2 := fun i hi => by
      obtain ⟨_, _, t0, t1⟩ := hcell i (by omega)
      obtain ⟨x, e0, _, _⟩ := DataW.trod_string Tryz.underlying22 t0
      obtain ⟨y, e1, _, _⟩ := DataW.trod_string Tryz.underlying22 t1
      simp at e0 e1
      exact ⟨(x, y), e0, e1⟩
    obtain ⟨q, hq⟩ := Go.Deep.choose_lt each
    refine ⟨some a, len, cap, fun i => (q i).1, fun i => (q i).2, rfl, ⟨fun h0 => ?_⟩, by unfold maxLen at hm; omega, hl⟩
    obtain ⟨b, off, spot⟩ := a
    have hspot : spot = none := by simpa [Addr.add] using World.cell?_spot (hcell 0 (by omega)).1
    subst hspot
    have add : ∀ i, (⟨b, off, none⟩ : Addr).add i = ⟨b, off + i, none⟩ := fun i => by unfold Addr.add; split <;> simp_all
    have hc : ∀ i, i < len * 2 → w.cell? ⟨b, off + i, none⟩ = some (.string (if i % 2 = 0 then (q (i / 2)).1 else (q (i / 2)).2)) := fun i hi => by
      obtain ⟨h1, h2, _, _⟩ := hcell (i / 2) (by omega)
      rw [add, (hq (i / 2) (by omega)).1] at h1
      rw [add, (hq (i / 2) (by omega)).2] at h2
      by_cases e : i % 2 = 0
      · rw [if_pos e, ← h1]; congr 2; omega
      · rw [if_neg e, ← h2]; congr 2; omega
    exact ⟨b, off, rfl, World.block_lt_of_cell? w ⟨b, off + 0, none⟩ (hc 0 h0), hc⟩

/-! ### A world that shows the list met -/
def lit1 : DataW Unit → List Value
  | .lit (.int k z) => [.int k z]
  | _ => []
def lit2 : DataW Unit → List Value
  | .agg l => l.flatMap lit1
  | d => lit1 d
def lit3 : DataW Unit → List Value
  | .agg l => l.flatMap lit2
  | d => lit1 d
def textOf : DataW Unit → ByteArray
  | .iface _ (.ptr (.agg [.lit (.string l)])) => ⟨l.toArray⟩
  | _ => ⟨#[]⟩

noncomputable def lowB : Nat := (World.holding Tryz.prog default ⟨#[], #[], []⟩).heap.size
noncomputable def laidWorld (os : Os) : World :=
  let w0 := World.holding Tryz.prog os ⟨#[.cells #[.string (textOf Rows.laid_strconv_ErrSyntax)] 205, .cells #[.string (textOf Rows.laid_strconv_ErrRange)] 205], #[], []⟩
  let put (h : Array Obj) (g : Nat) (cs : List Value) : Array Obj := h.modify g fun
    | .cells _ t frozen => .cells cs.toArray t frozen
    | o => o
  let h1 := put w0.heap 1 [.iface 203 (.pointer (some ⟨lowB, 0, none⟩))]
  let h2 := put h1 2 [.iface 203 (.pointer (some ⟨lowB + 1, 0, none⟩))]
  let h3 := put h2 3 (lit2 Rows.laid_internal_strconv_uint64pow10)
  let h4 := put h3 4 (lit2 Rows.laid_unicode_utf8_first)
  let h5 := put h4 5 (lit3 Rows.laid_unicode_utf8_acceptRanges)
  let h6 := put h5 6 (lit2 Rows.laid_math_bits_deBruijn32tab)
  let h7 := put h6 7 (lit2 Rows.laid_math_bits_deBruijn64tab)
  { w0 with heap := h7 }

set_option maxRecDepth 100000 in
theorem laid_in (os : Os) (args : Array Value) : LaidIn Tryz.prog ((laidWorld os).forCall (fun _ _ => 0) ⟨#[], args, []⟩).memory listed [6, 7, 3, 5, 2, lowB + 1, 1, lowB, 4] :=
  LaidIn.of_run _ 8 (by kernel_rfl) (by kernel_rfl) (by kernel_rfl) (by kernel_rfl)
theorem laid_met (os : Os) (args : Array Value) : laidMet Tryz.prog listed ((laidWorld os).forCall (fun _ _ => 0) ⟨#[], args, []⟩).memory := (laid_in os args).met

end Go.Proofs.YthhihdihkddakaaGreatDoor
