/- integer.Small: the walk, by the contracts of strconv.ParseInt. -/
import Derived.Test.YtldohkfomdcpoaaGreatDoorCompare
namespace Go.Proofs.YtldohkfomdcpoaaGreatDoor
open Go.RowKit

/-- does the integer fit into an int? -/
def fits (z : Int) : Bool := decide (-9223372036854775808 ≤ z ∧ z ≤ 9223372036854775807)

theorem pS_length (z : Int) : (pS z).size ≤ (cS z).size + 1 := by
  by_cases h : z = 0
  · subst h; rw [pS_zero]; exact Nat.le_add_left 1 _
  · rw [pS_of_ne h]; omega
theorem pS_list (z : Int) : (pS z).data.toList = Lib.itoa z := rfl

end Go.Proofs.YtldohkfomdcpoaaGreatDoor
