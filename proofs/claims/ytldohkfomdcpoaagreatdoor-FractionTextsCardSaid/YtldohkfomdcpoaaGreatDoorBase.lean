/- What the walks share: the strings of values, the package variables that the library reads, and how both last while new memory is made. -/
import Derived.Test.YtldohkfomdcpoaaGreatDoorShelf
import Derived.Test.YtldohkfomdcpoaaGreatDoorGroups
import Derived.WalkKit
import Derived.WalkSpells
import Derived.WalkLawsBesides
import Derived.Lib.Hide
namespace Go.Proofs.YtldohkfomdcpoaaGreatDoor
open Go.RowKit

/-- the value of a string, and the canonical text of an integer, as Go's strings -/
def vS (s : ByteArray) : Int := Num.val s.data.toList
def cS (z : Int) : ByteArray := ⟨(Num.canon z).toArray⟩

theorem vS_cS (z : Int) : vS (cS z) = z := by unfold vS cS; simp [Num.val_canon]

theorem var_below {P : Program} {w w' : World} {name : String} {cs : Array Value} (h : w.var? P name = some cs) (hb : Below w.heap.size w w') : w'.var? P name = some cs := by
  unfold World.var? at *
  cases hg : P.globalNamed name with
  | none => simp [hg] at h
  | some g =>
    simp only [hg, Option.bind_some] at h ⊢
    have hlt : g < w.heap.size := by
      rcases Nat.lt_or_ge g w.heap.size with h' | h'
      · exact h'
      · rw [Array.getElem?_eq_none h'] at h; simp at h
    rw [hb.block g hlt]
    exact h

/-- the package variables of the library hold what their texts lay -/
structure Ground (w : World) : Prop where
  tab : Lib.TabIs Tryz.prog w "internal/strconv.uint64pow10" .u64 Lib.pow10Tab
  max : ∃ m, w.cell? ⟨0, 0, none⟩ = some (.int .i64 m)

theorem cell_below {w w' : World} {g : Nat} {v : Value} (h : w.cell? ⟨g, 0, none⟩ = some v) (hb : Below w.heap.size w w') : w'.cell? ⟨g, 0, none⟩ = some v := by
  unfold World.cell? at *
  have hlt : g < w.heap.size := by
    rcases Nat.lt_or_ge g w.heap.size with h' | h'
    · exact h'
    · simp only [Array.getElem?_eq_none h'] at h; simp at h
  simp only [hb.block g hlt]
  exact h
theorem Ground.below {w w' : World} (h : Ground w) (hb : Below w.heap.size w w') : Ground w' :=
  ⟨var_below h.tab hb, h.max.elim fun m h => ⟨m, cell_below h hb⟩⟩

theorem below_grow {w : World} (k : Nat) (os : Array Obj) : Below w.heap.size w (Sort.grow (w.drewN k) os) :=
  ⟨rfl, rfl, rfl, by simp [Sort.grow], fun i hi => by
    show (w.heap ++ os)[i]? = _
    rw [Array.getElem?_append_left hi]⟩

theorem ret_str {l m : List UInt8} (h : l = m) : Ending.returned (.string ⟨l.toArray⟩) = .returned (.string ⟨m.toArray⟩) := by rw [h]
theorem ret_int {k : IntKind} {a b : Int} (h : a = b) : Ending.returned (.int k a) = .returned (.int k b) := by rw [h]

theorem data_toList (l : List UInt8) : (ByteArray.mk l.toArray).data.toList = l := rfl
theorem size_toList (s : ByteArray) : s.data.toList.length = s.size := (Lib.size_eq s).symm

end Go.Proofs.YtldohkfomdcpoaaGreatDoor
