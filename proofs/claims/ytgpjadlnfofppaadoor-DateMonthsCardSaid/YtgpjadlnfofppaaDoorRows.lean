/-
  NARROWER THAN 'FOR EVERY INPUT', by the rows' own cells (each row's printed sentence says how): DateParts: laid · DateShifts: laid · DateTexts: laid · DateThereAndBack: laid · DateWeeks: laid · DateYears: laid · DateMonths: laid · DateWhole: laid · DateRoundTrip: laid.
  DERIVED. THE GIVEN ROWS OF THIS SEAT. 9 by the template 'for every input the law returns true; each argument reads behind the call as it read before'; 0 by the template 'total and deterministic' (their statements: YtgpjadlnfofppaaDoorTotals.lean).
  GIVEN WITH THE SEED: the statements are not yours to turn. If you find one false, say at which input.
  Laid BY PROGRAM, IN A SANDBOX (cutbox-rows.mjs): the forced cells as the released guide's own fill.sh prints them over the translation ebc2979b6605c194… (all of the seat's roots in one cut). By AI agents, Wed Nov 11 2026. No macro, syntax, notation, axiom, sorry.
-/
import Derived.Test.YtgpjadlnfofppaaDoorChecked
import GoSem.Claim
import GoSem.ClaimJoined
import GoSem.ClaimMapViews
import Derived.JoinedTies
import Derived.KernelRfl
namespace Go.Proofs.YtgpjadlnfofppaaDoor
/- THE CELL 'sum', in the pinned program and in every row, IS THE sha256 OF THE DUMP (.gsa) THAT YtgpjadlnfofppaaDoorProg.lean LOADS. Nothing in Lean hashes anything: it is a label: what it is worth is what the hold of that sum in a sandbox is worth. -/
noncomputable def Tryd.pinned : Pinned := { name := "ytgpjadlnfofppaadoor", sum := "ebc2979b6605c194d9eb3f994dd6af768e91fc07177af28fcefd81418de77a78", checked := Tryd.checked }
namespace Rows
def none {H : Type} : Left H := { results := [], args := [] }

/- WHAT THE LISTED PACKAGE-LEVEL VARIABLES READ AS WHEN THE CALL BEGINS. Each datum BY PROGRAM (the guide's laid-datum.mjs) off the statement by which the dump's own 'gosem.cut.vars' lays the variable. In a bare row this is a premise. The card (YtgpjadlnfofppaaDoorCards.lean) ties it to the program's text. -/
def laid_math_bits_deBruijn32tab {H : Type} : DataW H := .agg [.lit (.int .u8 0), .lit (.int .u8 1), .lit (.int .u8 28), .lit (.int .u8 2), .lit (.int .u8 29), .lit (.int .u8 14), .lit (.int .u8 24), .lit (.int .u8 3), .lit (.int .u8 30), .lit (.int .u8 22), .lit (.int .u8 20), .lit (.int .u8 15), .lit (.int .u8 25), .lit (.int .u8 17), .lit (.int .u8 4), .lit (.int .u8 8), .lit (.int .u8 31), .lit (.int .u8 27), .lit (.int .u8 13), .lit (.int .u8 23), .lit (.int .u8 21), .lit (.int .u8 19), .lit (.int .u8 16), .lit (.int .u8 7), .lit (.int .u8 26), .lit (.int .u8 12), .lit (.int .u8 18), .lit (.int .u8 6), .lit (.int .u8 11), .lit (.int .u8 5), .lit (.int .u8 10), .lit (.int .u8 9)]
def laid_math_bits_deBruijn64tab {H : Type} : DataW H := .agg [.lit (.int .u8 0), .lit (.int .u8 1), .lit (.int .u8 56), .lit (.int .u8 2), .lit (.int .u8 57), .lit (.int .u8 49), .lit (.int .u8 28), .lit (.int .u8 3), .lit (.int .u8 61), .lit (.int .u8 58), .lit (.int .u8 42), .lit (.int .u8 50), .lit (.int .u8 38), .lit (.int .u8 29), .lit (.int .u8 17), .lit (.int .u8 4), .lit (.int .u8 62), .lit (.int .u8 47), .lit (.int .u8 59), .lit (.int .u8 36), .lit (.int .u8 45), .lit (.int .u8 43), .lit (.int .u8 51), .lit (.int .u8 22), .lit (.int .u8 53), .lit (.int .u8 39), .lit (.int .u8 33), .lit (.int .u8 30), .lit (.int .u8 24), .lit (.int .u8 18), .lit (.int .u8 12), .lit (.int .u8 5), .lit (.int .u8 63), .lit (.int .u8 55), .lit (.int .u8 48), .lit (.int .u8 27), .lit (.int .u8 60), .lit (.int .u8 41), .lit (.int .u8 37), .lit (.int .u8 16), .lit (.int .u8 46), .lit (.int .u8 35), .lit (.int .u8 44), .lit (.int .u8 21), .lit (.int .u8 52), .lit (.int .u8 32), .lit (.int .u8 23), .lit (.int .u8 11), .lit (.int .u8 54), .lit (.int .u8 26), .lit (.int .u8 40), .lit (.int .u8 15), .lit (.int .u8 34), .lit (.int .u8 20), .lit (.int .u8 31), .lit (.int .u8 10), .lit (.int .u8 25), .lit (.int .u8 14), .lit (.int .u8 19), .lit (.int .u8 9), .lit (.int .u8 13), .lit (.int .u8 8), .lit (.int .u8 7), .lit (.int .u8 6)]
def laid_internal_strconv_uint64pow10 {H : Type} : DataW H := .agg [.lit (.int .u64 1), .lit (.int .u64 10), .lit (.int .u64 100), .lit (.int .u64 1000), .lit (.int .u64 10000), .lit (.int .u64 100000), .lit (.int .u64 1000000), .lit (.int .u64 10000000), .lit (.int .u64 100000000), .lit (.int .u64 1000000000), .lit (.int .u64 10000000000), .lit (.int .u64 100000000000), .lit (.int .u64 1000000000000), .lit (.int .u64 10000000000000), .lit (.int .u64 100000000000000), .lit (.int .u64 1000000000000000), .lit (.int .u64 10000000000000000), .lit (.int .u64 100000000000000000), .lit (.int .u64 1000000000000000000), .lit (.int .u64 10000000000000000000)]
def laid_tranche_date_lengths {H : Type} : DataW H := .agg [.lit (.int .i64 31), .lit (.int .i64 28), .lit (.int .i64 31), .lit (.int .i64 30), .lit (.int .i64 31), .lit (.int .i64 30), .lit (.int .i64 31), .lit (.int .i64 31), .lit (.int .i64 30), .lit (.int .i64 31), .lit (.int .i64 30), .lit (.int .i64 31)]

/-- 'tranchelaw06.DateParts': WHATEVER THE INPUT: true; the input reads as it did. -/
def datePartsSpec : ChangeSpec := { name := "dateParts", fn := fun _ => fun
  | [d1, d2, d3, d4] => { results := [.lit (.bool true)], args := [d1, d2, d3, d4] }
  | _ => none }
def datePartsRow : OpenClaim := { program := "ytgpjadlnfofppaadoor", sum := "ebc2979b6605c194d9eb3f994dd6af768e91fc07177af28fcefd81418de77a78", func := "tranche/tranchelaw06.DateParts", spec := "dateParts", inPlace := ["internal/abi.NoEscape"], named := ["tranche/date.lengths", "internal/strconv.uint64pow10", "math/bits.deBruijn32tab", "math/bits.deBruijn64tab"], apart := false, laid := [("math/bits.deBruijn32tab", laid_math_bits_deBruijn32tab), ("math/bits.deBruijn64tab", laid_math_bits_deBruijn64tab), ("internal/strconv.uint64pow10", laid_internal_strconv_uint64pow10), ("tranche/date.lengths", laid_tranche_date_lengths)] }
def DatePartsSaid : Prop := datePartsRow.holds Tryd.pinned (OpenSpec.ofChange datePartsSpec)

/-- ITS FALSE NEIGHBOUR: 'it returns false'. Refute it at one input. -/
def datePartsWrong : ChangeSpec := { name := "dateParts", fn := fun _ => fun
  | [d1, d2, d3, d4] => { results := [.lit (.bool false)], args := [d1, d2, d3, d4] }
  | _ => none }
def DatePartsWrongFalsely : Prop := datePartsRow.holds Tryd.pinned (OpenSpec.ofChange datePartsWrong)

/-- 'tranchelaw06.DateShifts': WHATEVER THE INPUT: true; the input reads as it did. -/
def dateShiftsSpec : ChangeSpec := { name := "dateShifts", fn := fun _ => fun
  | [d1, d2, d3] => { results := [.lit (.bool true)], args := [d1, d2, d3] }
  | _ => none }
def dateShiftsRow : OpenClaim := { program := "ytgpjadlnfofppaadoor", sum := "ebc2979b6605c194d9eb3f994dd6af768e91fc07177af28fcefd81418de77a78", func := "tranche/tranchelaw06.DateShifts", spec := "dateShifts", inPlace := ["internal/abi.NoEscape"], recurses := true, named := ["tranche/date.lengths", "internal/strconv.uint64pow10", "math/bits.deBruijn32tab", "math/bits.deBruijn64tab"], apart := false, laid := [("math/bits.deBruijn32tab", laid_math_bits_deBruijn32tab), ("math/bits.deBruijn64tab", laid_math_bits_deBruijn64tab), ("internal/strconv.uint64pow10", laid_internal_strconv_uint64pow10), ("tranche/date.lengths", laid_tranche_date_lengths)] }
def DateShiftsSaid : Prop := dateShiftsRow.holds Tryd.pinned (OpenSpec.ofChange dateShiftsSpec)

/-- ITS FALSE NEIGHBOUR: 'it returns false'. Refute it at one input. -/
def dateShiftsWrong : ChangeSpec := { name := "dateShifts", fn := fun _ => fun
  | [d1, d2, d3] => { results := [.lit (.bool false)], args := [d1, d2, d3] }
  | _ => none }
def DateShiftsWrongFalsely : Prop := dateShiftsRow.holds Tryd.pinned (OpenSpec.ofChange dateShiftsWrong)

/-- 'tranchelaw06.DateTexts': WHATEVER THE INPUT: true; the input reads as it did. -/
def dateTextsSpec : ChangeSpec := { name := "dateTexts", fn := fun _ => fun
  | [d1, d2] => { results := [.lit (.bool true)], args := [d1, d2] }
  | _ => none }
def dateTextsRow : OpenClaim := { program := "ytgpjadlnfofppaadoor", sum := "ebc2979b6605c194d9eb3f994dd6af768e91fc07177af28fcefd81418de77a78", func := "tranche/tranchelaw06.DateTexts", spec := "dateTexts", inPlace := ["internal/abi.NoEscape"], unfollowed := true, recurses := true, named := ["tranche/date.lengths", "internal/strconv.uint64pow10", "math/bits.deBruijn32tab", "math/bits.deBruijn64tab"], apart := false, laid := [("math/bits.deBruijn32tab", laid_math_bits_deBruijn32tab), ("math/bits.deBruijn64tab", laid_math_bits_deBruijn64tab), ("internal/strconv.uint64pow10", laid_internal_strconv_uint64pow10), ("tranche/date.lengths", laid_tranche_date_lengths)] }
def DateTextsSaid : Prop := dateTextsRow.holds Tryd.pinned (OpenSpec.ofChange dateTextsSpec)

/-- ITS FALSE NEIGHBOUR: 'it returns false'. Refute it at one input. -/
def dateTextsWrong : ChangeSpec := { name := "dateTexts", fn := fun _ => fun
  | [d1, d2] => { results := [.lit (.bool false)], args := [d1, d2] }
  | _ => none }
def DateTextsWrongFalsely : Prop := dateTextsRow.holds Tryd.pinned (OpenSpec.ofChange dateTextsWrong)

/-- 'tranchelaw06.DateThereAndBack': WHATEVER THE INPUT: true; the input reads as it did. -/
def dateThereAndBackSpec : ChangeSpec := { name := "dateThereAndBack", fn := fun _ => fun
  | [d] => { results := [.lit (.bool true)], args := [d] }
  | _ => none }
def dateThereAndBackRow : OpenClaim := { program := "ytgpjadlnfofppaadoor", sum := "ebc2979b6605c194d9eb3f994dd6af768e91fc07177af28fcefd81418de77a78", func := "tranche/tranchelaw06.DateThereAndBack", spec := "dateThereAndBack", inPlace := ["internal/abi.NoEscape"], named := ["tranche/date.lengths", "internal/strconv.uint64pow10", "math/bits.deBruijn32tab", "math/bits.deBruijn64tab"], apart := false, laid := [("math/bits.deBruijn32tab", laid_math_bits_deBruijn32tab), ("math/bits.deBruijn64tab", laid_math_bits_deBruijn64tab), ("internal/strconv.uint64pow10", laid_internal_strconv_uint64pow10), ("tranche/date.lengths", laid_tranche_date_lengths)] }
def DateThereAndBackSaid : Prop := dateThereAndBackRow.holds Tryd.pinned (OpenSpec.ofChange dateThereAndBackSpec)

/-- ITS FALSE NEIGHBOUR: 'it returns false'. Refute it at one input. -/
def dateThereAndBackWrong : ChangeSpec := { name := "dateThereAndBack", fn := fun _ => fun
  | [d] => { results := [.lit (.bool false)], args := [d] }
  | _ => none }
def DateThereAndBackWrongFalsely : Prop := dateThereAndBackRow.holds Tryd.pinned (OpenSpec.ofChange dateThereAndBackWrong)

/-- 'tranchelaw06.DateWeeks': WHATEVER THE INPUT: true; the input reads as it did. -/
def dateWeeksSpec : ChangeSpec := { name := "dateWeeks", fn := fun _ => fun
  | [d] => { results := [.lit (.bool true)], args := [d] }
  | _ => none }
def dateWeeksRow : OpenClaim := { program := "ytgpjadlnfofppaadoor", sum := "ebc2979b6605c194d9eb3f994dd6af768e91fc07177af28fcefd81418de77a78", func := "tranche/tranchelaw06.DateWeeks", spec := "dateWeeks", inPlace := ["internal/abi.NoEscape"], named := ["tranche/date.lengths", "internal/strconv.uint64pow10", "math/bits.deBruijn32tab", "math/bits.deBruijn64tab"], apart := false, laid := [("math/bits.deBruijn32tab", laid_math_bits_deBruijn32tab), ("math/bits.deBruijn64tab", laid_math_bits_deBruijn64tab), ("internal/strconv.uint64pow10", laid_internal_strconv_uint64pow10), ("tranche/date.lengths", laid_tranche_date_lengths)] }
def DateWeeksSaid : Prop := dateWeeksRow.holds Tryd.pinned (OpenSpec.ofChange dateWeeksSpec)

/-- ITS FALSE NEIGHBOUR: 'it returns false'. Refute it at one input. -/
def dateWeeksWrong : ChangeSpec := { name := "dateWeeks", fn := fun _ => fun
  | [d] => { results := [.lit (.bool false)], args := [d] }
  | _ => none }
def DateWeeksWrongFalsely : Prop := dateWeeksRow.holds Tryd.pinned (OpenSpec.ofChange dateWeeksWrong)

/-- 'tranchelaw06.DateYears': WHATEVER THE INPUT: true; the input reads as it did. -/
def dateYearsSpec : ChangeSpec := { name := "dateYears", fn := fun _ => fun
  | [d] => { results := [.lit (.bool true)], args := [d] }
  | _ => none }
def dateYearsRow : OpenClaim := { program := "ytgpjadlnfofppaadoor", sum := "ebc2979b6605c194d9eb3f994dd6af768e91fc07177af28fcefd81418de77a78", func := "tranche/tranchelaw06.DateYears", spec := "dateYears", inPlace := ["internal/abi.NoEscape"], named := ["tranche/date.lengths", "internal/strconv.uint64pow10", "math/bits.deBruijn32tab", "math/bits.deBruijn64tab"], apart := false, laid := [("math/bits.deBruijn32tab", laid_math_bits_deBruijn32tab), ("math/bits.deBruijn64tab", laid_math_bits_deBruijn64tab), ("internal/strconv.uint64pow10", laid_internal_strconv_uint64pow10), ("tranche/date.lengths", laid_tranche_date_lengths)] }
def DateYearsSaid : Prop := dateYearsRow.holds Tryd.pinned (OpenSpec.ofChange dateYearsSpec)

/-- ITS FALSE NEIGHBOUR: 'it returns false'. Refute it at one input. -/
def dateYearsWrong : ChangeSpec := { name := "dateYears", fn := fun _ => fun
  | [d] => { results := [.lit (.bool false)], args := [d] }
  | _ => none }
def DateYearsWrongFalsely : Prop := dateYearsRow.holds Tryd.pinned (OpenSpec.ofChange dateYearsWrong)

/-- 'tranchelaw06.DateMonths': WHATEVER THE INPUT: true; the input reads as it did. -/
def dateMonthsSpec : ChangeSpec := { name := "dateMonths", fn := fun _ => fun
  | [d1, d2, d3, d4] => { results := [.lit (.bool true)], args := [d1, d2, d3, d4] }
  | _ => none }
def dateMonthsRow : OpenClaim := { program := "ytgpjadlnfofppaadoor", sum := "ebc2979b6605c194d9eb3f994dd6af768e91fc07177af28fcefd81418de77a78", func := "tranche/tranchelaw06.DateMonths", spec := "dateMonths", inPlace := ["internal/abi.NoEscape"], named := ["tranche/date.lengths", "internal/strconv.uint64pow10", "math/bits.deBruijn32tab", "math/bits.deBruijn64tab"], apart := false, laid := [("math/bits.deBruijn32tab", laid_math_bits_deBruijn32tab), ("math/bits.deBruijn64tab", laid_math_bits_deBruijn64tab), ("internal/strconv.uint64pow10", laid_internal_strconv_uint64pow10), ("tranche/date.lengths", laid_tranche_date_lengths)] }
def DateMonthsSaid : Prop := dateMonthsRow.holds Tryd.pinned (OpenSpec.ofChange dateMonthsSpec)

/-- ITS FALSE NEIGHBOUR: 'it returns false'. Refute it at one input. -/
def dateMonthsWrong : ChangeSpec := { name := "dateMonths", fn := fun _ => fun
  | [d1, d2, d3, d4] => { results := [.lit (.bool false)], args := [d1, d2, d3, d4] }
  | _ => none }
def DateMonthsWrongFalsely : Prop := dateMonthsRow.holds Tryd.pinned (OpenSpec.ofChange dateMonthsWrong)

/-- 'tranchelaw06.DateWhole': WHATEVER THE INPUT: true; the input reads as it did. -/
def dateWholeSpec : ChangeSpec := { name := "dateWhole", fn := fun _ => fun
  | [d1, d2] => { results := [.lit (.bool true)], args := [d1, d2] }
  | _ => none }
def dateWholeRow : OpenClaim := { program := "ytgpjadlnfofppaadoor", sum := "ebc2979b6605c194d9eb3f994dd6af768e91fc07177af28fcefd81418de77a78", func := "tranche/tranchelaw06.DateWhole", spec := "dateWhole", inPlace := ["internal/abi.NoEscape"], named := ["tranche/date.lengths", "internal/strconv.uint64pow10", "math/bits.deBruijn32tab", "math/bits.deBruijn64tab"], apart := false, laid := [("math/bits.deBruijn32tab", laid_math_bits_deBruijn32tab), ("math/bits.deBruijn64tab", laid_math_bits_deBruijn64tab), ("internal/strconv.uint64pow10", laid_internal_strconv_uint64pow10), ("tranche/date.lengths", laid_tranche_date_lengths)] }
def DateWholeSaid : Prop := dateWholeRow.holds Tryd.pinned (OpenSpec.ofChange dateWholeSpec)

/-- ITS FALSE NEIGHBOUR: 'it returns false'. Refute it at one input. -/
def dateWholeWrong : ChangeSpec := { name := "dateWhole", fn := fun _ => fun
  | [d1, d2] => { results := [.lit (.bool false)], args := [d1, d2] }
  | _ => none }
def DateWholeWrongFalsely : Prop := dateWholeRow.holds Tryd.pinned (OpenSpec.ofChange dateWholeWrong)

/-- 'tranchelaw06.DateRoundTrip': WHATEVER THE INPUT: true; the input reads as it did. -/
def dateRoundTripSpec : ChangeSpec := { name := "dateRoundTrip", fn := fun _ => fun
  | [d1, d2, d3] => { results := [.lit (.bool true)], args := [d1, d2, d3] }
  | _ => none }
def dateRoundTripRow : OpenClaim := { program := "ytgpjadlnfofppaadoor", sum := "ebc2979b6605c194d9eb3f994dd6af768e91fc07177af28fcefd81418de77a78", func := "tranche/tranchelaw06.DateRoundTrip", spec := "dateRoundTrip", inPlace := ["internal/abi.NoEscape"], unfollowed := true, recurses := true, named := ["tranche/date.lengths", "internal/strconv.uint64pow10", "math/bits.deBruijn32tab", "math/bits.deBruijn64tab"], apart := false, laid := [("math/bits.deBruijn32tab", laid_math_bits_deBruijn32tab), ("math/bits.deBruijn64tab", laid_math_bits_deBruijn64tab), ("internal/strconv.uint64pow10", laid_internal_strconv_uint64pow10), ("tranche/date.lengths", laid_tranche_date_lengths)] }
def DateRoundTripSaid : Prop := dateRoundTripRow.holds Tryd.pinned (OpenSpec.ofChange dateRoundTripSpec)

/-- ITS FALSE NEIGHBOUR: 'it returns false'. Refute it at one input. -/
def dateRoundTripWrong : ChangeSpec := { name := "dateRoundTrip", fn := fun _ => fun
  | [d1, d2, d3] => { results := [.lit (.bool false)], args := [d1, d2, d3] }
  | _ => none }
def DateRoundTripWrongFalsely : Prop := dateRoundTripRow.holds Tryd.pinned (OpenSpec.ofChange dateRoundTripWrong)

/- THE SECOND FORM. 'bulk': how many values and letters a reading holds, each counted each time it is reached (what is shared counts as often as it is met; a slice's spare places count too). A statement '..UptoSaid' is the law's where the arguments, and the package variables that the reading takes, are together of bulk at most 1048576: NARROWER than '..Said'. Prove '..Said' where nothing that the law and all that it calls make is longer than what came in: it says more and counts as full. Else prove '..UptoSaid'. A law counts once. -/
mutual
def uptoBulk {H : Type} : DataW H → Nat
  | .lit (.string bytes) => bytes.length + 1
  | .lit _ => 1
  | .nil => 1
  | .ptr d => uptoBulk d + 1
  | .slice elems spare => uptoBulkAll elems + uptoBulkAll spare + 1
  | .agg parts => uptoBulkAll parts + 1
  | .iface _ d => uptoBulk d + 1
  | .map entries => uptoBulkEntries entries + 1
  | .held _ => 1
def uptoBulkAll {H : Type} : List (DataW H) → Nat
  | [] => 0
  | d :: r => uptoBulk d + uptoBulkAll r
def uptoBulkEntries {H : Type} : List (Lit × DataW H) → Nat
  | [] => 0
  | x :: r => uptoBulkEntry x + uptoBulkEntries r
def uptoBulkEntry {H : Type} : Lit × DataW H → Nat
  | (.string bytes, d) => bytes.length + uptoBulk d + 1
  | (_, d) => uptoBulk d + 1
 end
def uptoSmall : (H : Type) → List (DataW H) → Bool := fun _ ds => decide (uptoBulkAll ds ≤ 1048576)
def OpenSpec.upto (s : _root_.Go.ChangeSpec) : _root_.Go.OpenSpec := { _root_.Go.OpenSpec.ofChange s with cond := some uptoSmall }

/-- 'tranchelaw06.DateParts', WHERE WHAT IT READS IS OF BULK AT MOST 1048576: true; the input reads as it did. -/
def datePartsUptoRow : OpenClaim := { program := "ytgpjadlnfofppaadoor", sum := "ebc2979b6605c194d9eb3f994dd6af768e91fc07177af28fcefd81418de77a78", func := "tranche/tranchelaw06.DateParts", spec := "dateParts", inPlace := ["internal/abi.NoEscape"], named := ["tranche/date.lengths", "internal/strconv.uint64pow10", "math/bits.deBruijn32tab", "math/bits.deBruijn64tab"], apart := false, laid := [("math/bits.deBruijn32tab", laid_math_bits_deBruijn32tab), ("math/bits.deBruijn64tab", laid_math_bits_deBruijn64tab), ("internal/strconv.uint64pow10", laid_internal_strconv_uint64pow10), ("tranche/date.lengths", laid_tranche_date_lengths)], narrowed := true }
def DatePartsUptoSaid : Prop := datePartsUptoRow.holds Tryd.pinned (OpenSpec.upto datePartsSpec)

/-- 'tranchelaw06.DateShifts', WHERE WHAT IT READS IS OF BULK AT MOST 1048576: true; the input reads as it did. -/
def dateShiftsUptoRow : OpenClaim := { program := "ytgpjadlnfofppaadoor", sum := "ebc2979b6605c194d9eb3f994dd6af768e91fc07177af28fcefd81418de77a78", func := "tranche/tranchelaw06.DateShifts", spec := "dateShifts", inPlace := ["internal/abi.NoEscape"], recurses := true, named := ["tranche/date.lengths", "internal/strconv.uint64pow10", "math/bits.deBruijn32tab", "math/bits.deBruijn64tab"], apart := false, laid := [("math/bits.deBruijn32tab", laid_math_bits_deBruijn32tab), ("math/bits.deBruijn64tab", laid_math_bits_deBruijn64tab), ("internal/strconv.uint64pow10", laid_internal_strconv_uint64pow10), ("tranche/date.lengths", laid_tranche_date_lengths)], narrowed := true }
def DateShiftsUptoSaid : Prop := dateShiftsUptoRow.holds Tryd.pinned (OpenSpec.upto dateShiftsSpec)

/-- 'tranchelaw06.DateTexts', WHERE WHAT IT READS IS OF BULK AT MOST 1048576: true; the input reads as it did. -/
def dateTextsUptoRow : OpenClaim := { program := "ytgpjadlnfofppaadoor", sum := "ebc2979b6605c194d9eb3f994dd6af768e91fc07177af28fcefd81418de77a78", func := "tranche/tranchelaw06.DateTexts", spec := "dateTexts", inPlace := ["internal/abi.NoEscape"], unfollowed := true, recurses := true, named := ["tranche/date.lengths", "internal/strconv.uint64pow10", "math/bits.deBruijn32tab", "math/bits.deBruijn64tab"], apart := false, laid := [("math/bits.deBruijn32tab", laid_math_bits_deBruijn32tab), ("math/bits.deBruijn64tab", laid_math_bits_deBruijn64tab), ("internal/strconv.uint64pow10", laid_internal_strconv_uint64pow10), ("tranche/date.lengths", laid_tranche_date_lengths)], narrowed := true }
def DateTextsUptoSaid : Prop := dateTextsUptoRow.holds Tryd.pinned (OpenSpec.upto dateTextsSpec)

/-- 'tranchelaw06.DateThereAndBack', WHERE WHAT IT READS IS OF BULK AT MOST 1048576: true; the input reads as it did. -/
def dateThereAndBackUptoRow : OpenClaim := { program := "ytgpjadlnfofppaadoor", sum := "ebc2979b6605c194d9eb3f994dd6af768e91fc07177af28fcefd81418de77a78", func := "tranche/tranchelaw06.DateThereAndBack", spec := "dateThereAndBack", inPlace := ["internal/abi.NoEscape"], named := ["tranche/date.lengths", "internal/strconv.uint64pow10", "math/bits.deBruijn32tab", "math/bits.deBruijn64tab"], apart := false, laid := [("math/bits.deBruijn32tab", laid_math_bits_deBruijn32tab), ("math/bits.deBruijn64tab", laid_math_bits_deBruijn64tab), ("internal/strconv.uint64pow10", laid_internal_strconv_uint64pow10), ("tranche/date.lengths", laid_tranche_date_lengths)], narrowed := true }
def DateThereAndBackUptoSaid : Prop := dateThereAndBackUptoRow.holds Tryd.pinned (OpenSpec.upto dateThereAndBackSpec)

/-- 'tranchelaw06.DateWeeks', WHERE WHAT IT READS IS OF BULK AT MOST 1048576: true; the input reads as it did. -/
def dateWeeksUptoRow : OpenClaim := { program := "ytgpjadlnfofppaadoor", sum := "ebc2979b6605c194d9eb3f994dd6af768e91fc07177af28fcefd81418de77a78", func := "tranche/tranchelaw06.DateWeeks", spec := "dateWeeks", inPlace := ["internal/abi.NoEscape"], named := ["tranche/date.lengths", "internal/strconv.uint64pow10", "math/bits.deBruijn32tab", "math/bits.deBruijn64tab"], apart := false, laid := [("math/bits.deBruijn32tab", laid_math_bits_deBruijn32tab), ("math/bits.deBruijn64tab", laid_math_bits_deBruijn64tab), ("internal/strconv.uint64pow10", laid_internal_strconv_uint64pow10), ("tranche/date.lengths", laid_tranche_date_lengths)], narrowed := true }
def DateWeeksUptoSaid : Prop := dateWeeksUptoRow.holds Tryd.pinned (OpenSpec.upto dateWeeksSpec)

/-- 'tranchelaw06.DateYears', WHERE WHAT IT READS IS OF BULK AT MOST 1048576: true; the input reads as it did. -/
def dateYearsUptoRow : OpenClaim := { program := "ytgpjadlnfofppaadoor", sum := "ebc2979b6605c194d9eb3f994dd6af768e91fc07177af28fcefd81418de77a78", func := "tranche/tranchelaw06.DateYears", spec := "dateYears", inPlace := ["internal/abi.NoEscape"], named := ["tranche/date.lengths", "internal/strconv.uint64pow10", "math/bits.deBruijn32tab", "math/bits.deBruijn64tab"], apart := false, laid := [("math/bits.deBruijn32tab", laid_math_bits_deBruijn32tab), ("math/bits.deBruijn64tab", laid_math_bits_deBruijn64tab), ("internal/strconv.uint64pow10", laid_internal_strconv_uint64pow10), ("tranche/date.lengths", laid_tranche_date_lengths)], narrowed := true }
def DateYearsUptoSaid : Prop := dateYearsUptoRow.holds Tryd.pinned (OpenSpec.upto dateYearsSpec)

/-- 'tranchelaw06.DateMonths', WHERE WHAT IT READS IS OF BULK AT MOST 1048576: true; the input reads as it did. -/
def dateMonthsUptoRow : OpenClaim := { program := "ytgpjadlnfofppaadoor", sum := "ebc2979b6605c194d9eb3f994dd6af768e91fc07177af28fcefd81418de77a78", func := "tranche/tranchelaw06.DateMonths", spec := "dateMonths", inPlace := ["internal/abi.NoEscape"], named := ["tranche/date.lengths", "internal/strconv.uint64pow10", "math/bits.deBruijn32tab", "math/bits.deBruijn64tab"], apart := false, laid := [("math/bits.deBruijn32tab", laid_math_bits_deBruijn32tab), ("math/bits.deBruijn64tab", laid_math_bits_deBruijn64tab), ("internal/strconv.uint64pow10", laid_internal_strconv_uint64pow10), ("tranche/date.lengths", laid_tranche_date_lengths)], narrowed := true }
def DateMonthsUptoSaid : Prop := dateMonthsUptoRow.holds Tryd.pinned (OpenSpec.upto dateMonthsSpec)

/-- 'tranchelaw06.DateWhole', WHERE WHAT IT READS IS OF BULK AT MOST 1048576: true; the input reads as it did. -/
def dateWholeUptoRow : OpenClaim := { program := "ytgpjadlnfofppaadoor", sum := "ebc2979b6605c194d9eb3f994dd6af768e91fc07177af28fcefd81418de77a78", func := "tranche/tranchelaw06.DateWhole", spec := "dateWhole", inPlace := ["internal/abi.NoEscape"], named := ["tranche/date.lengths", "internal/strconv.uint64pow10", "math/bits.deBruijn32tab", "math/bits.deBruijn64tab"], apart := false, laid := [("math/bits.deBruijn32tab", laid_math_bits_deBruijn32tab), ("math/bits.deBruijn64tab", laid_math_bits_deBruijn64tab), ("internal/strconv.uint64pow10", laid_internal_strconv_uint64pow10), ("tranche/date.lengths", laid_tranche_date_lengths)], narrowed := true }
def DateWholeUptoSaid : Prop := dateWholeUptoRow.holds Tryd.pinned (OpenSpec.upto dateWholeSpec)

/-- 'tranchelaw06.DateRoundTrip', WHERE WHAT IT READS IS OF BULK AT MOST 1048576: true; the input reads as it did. -/
def dateRoundTripUptoRow : OpenClaim := { program := "ytgpjadlnfofppaadoor", sum := "ebc2979b6605c194d9eb3f994dd6af768e91fc07177af28fcefd81418de77a78", func := "tranche/tranchelaw06.DateRoundTrip", spec := "dateRoundTrip", inPlace := ["internal/abi.NoEscape"], unfollowed := true, recurses := true, named := ["tranche/date.lengths", "internal/strconv.uint64pow10", "math/bits.deBruijn32tab", "math/bits.deBruijn64tab"], apart := false, laid := [("math/bits.deBruijn32tab", laid_math_bits_deBruijn32tab), ("math/bits.deBruijn64tab", laid_math_bits_deBruijn64tab), ("internal/strconv.uint64pow10", laid_internal_strconv_uint64pow10), ("tranche/date.lengths", laid_tranche_date_lengths)], narrowed := true }
def DateRoundTripUptoSaid : Prop := dateRoundTripUptoRow.holds Tryd.pinned (OpenSpec.upto dateRoundTripSpec)

end Rows
end Go.Proofs.YtgpjadlnfofppaaDoor
