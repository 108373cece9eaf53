/- the laws' own functions: compare, Great, great, awake. -/
import Derived.Test.YtldohkfomdcpoaaGreatDoorGcd
namespace Go.Proofs.YtldohkfomdcpoaaGreatDoor
open Go.RowKit

/-- some string is longer than 60 bytes -/
def long (ss : List ByteArray) : Bool := ss.any fun s => decide (60 < s.size)

theorem great_cells (w : World) (ss : List ByteArray) : ∀ i, i < ss.length → (w.alloc (.cells (ss.map Value.string).toArray 22)).cell? ⟨w.heap.size, i, none⟩ = some (.string (ss.getD i ⟨#[]⟩)) := by
  intro i hi
  rw [cell_of_row _ _ _ _ _ _ (heap_alloc_new _ _)]
  simp [hi]
theorem long_true {ss : List ByteArray} {s : ByteArray} (h : s ∈ ss) (hs : 60 < s.size) : long ss = true := by
  unfold long; rw [List.any_eq_true]; exact ⟨s, h, by simpa using hs⟩
theorem long_false {ss : List ByteArray} (h : ∀ s ∈ ss, s.size ≤ 60) : long ss = false := by
  unfold long; rw [List.any_eq_false]; intro s hs; have := h s hs; simp; omega

theorem cS_int {z : Int} (h0 : -18446744073709551616 ≤ z) (h1 : z ≤ 18446744073709551616) : (cS z).size ≤ 21 := cS_size (k := 20) (by omega)
theorem cS_can (z : Int) : isCan (cS z) = true := by unfold isCan; rw [vS_cS]; simp
theorem chk_cS (z : Int) : chk (cS z) = 0 := by unfold chk; rw [cS_can]; rfl
theorem vS_one : vS ⟨#[49]⟩ = 1 := by decide +kernel
theorem vS_mone : vS ⟨#[45, 49]⟩ = -1 := by decide +kernel
theorem vS_nil : vS ⟨#[]⟩ = 0 := by decide +kernel
theorem cS_one : cS 1 = ⟨#[49]⟩ := by decide +kernel
theorem cS_zero : cS 0 = ⟨#[]⟩ := by decide +kernel
theorem vS_pS (z : Int) : vS (pS z) = z := by
  by_cases h : z = 0
  · rw [h, pS_zero]; decide +kernel
  · rw [pS_of_ne h, vS_cS]
theorem isText_pS (z : Int) : isText (pS z) = true := by unfold isText; rw [vS_pS]; simp

/-! ### The contracts, by values -/
/-- a number of at most k digits -/
def Cap (k : Nat) (z : Int) : Prop := z.natAbs < 10 ^ k
theorem Cap.add {k : Nat} {x y : Int} (hx : Cap k x) (hy : Cap k y) : Cap (k + 1) (x + y) := by
  unfold Cap at *; rw [Nat.pow_succ]; omega
theorem Cap.sub {k : Nat} {x y : Int} (hx : Cap k x) (hy : Cap k y) : Cap (k + 1) (x - y) := by
  unfold Cap at *; rw [Nat.pow_succ]; omega
theorem Cap.neg {k : Nat} {x : Int} (hx : Cap k x) : Cap k (-x) := by unfold Cap at *; omega
theorem Cap.mono {k l : Nat} {x : Int} (hx : Cap k x) (h : k ≤ l) : Cap l x := Nat.lt_of_lt_of_le hx (Nat.pow_le_pow_right (by decide) h)
theorem Cap.mul {k l : Nat} {x y : Int} (hx : Cap k x) (hy : Cap l y) : Cap (k + l) (x * y) := by
  unfold Cap at *
  rw [Int.natAbs_mul, Nat.pow_add]
  exact Nat.mul_lt_mul'' hx hy
theorem Cap.size {k : Nat} {z : Int} (h : Cap k z) (hk : k ≤ 4294967294) : (cS z).size ≤ 4294967295 := by have := cS_size h; omega
theorem Cap.of {s : ByteArray} {k : Nat} {x : Int} (h : s.size ≤ k) (hx : vS s = x) : Cap k x := by
  have := vS_lt s
  rw [hx] at this
  exact Cap.mono this h
theorem le_big {n : Nat} (h : n ≤ 4294967295) : n ≤ 4294967296 := Nat.le_succ_of_le h

theorem add_v {a b : ByteArray} {x y z : Int} (w : World) (hG : Ground w) (ha : a.size ≤ 4294967295) (hb : b.size ≤ 4294967295) (hx : vS a = x) (hy : vS b = y) (hz : x + y = z) :
    Calls Tryz.prog 95 #[.string a, .string b] w (StrPost w z) := by rw [← hz, ← hx, ← hy]; exact add_any a b w hG (le_big ha) (le_big hb)
theorem mul_v {a b : ByteArray} {x y z : Int} (w : World) (hG : Ground w) (ha : a.size ≤ 4294967295) (hb : b.size ≤ 4294967295) (hx : vS a = x) (hy : vS b = y) (hz : x * y = z) :
    Calls Tryz.prog 88 #[.string a, .string b] w (StrPost w z) := by rw [← hz, ← hx, ← hy]; exact mul_any a b w hG (le_big ha) (le_big hb)
theorem gcd_v {a b : ByteArray} {x y z : Int} (w : World) (hG : Ground w) (ha : a.size ≤ 4294967295) (hb : b.size ≤ 4294967295) (hx : vS a = x) (hy : vS b = y) (hz : (Int.gcd x y : Int) = z) :
    Calls Tryz.prog 63 #[.string a, .string b] w (StrPost w z) := by rw [← hz, ← hx, ← hy]; exact gcd_any a b w hG (le_big ha) (le_big hb)
theorem compare_v {a b : ByteArray} {x y z : Int} (w : World) (ha : a.size ≤ 4294967295) (hb : b.size ≤ 4294967295) (hx : vS a = x) (hy : vS b = y) (hz : cmp3 x y = z) :
    Calls Tryz.prog 48 #[.string a, .string b] w fun e w' => e = .returned (.int .i64 z) ∧ Below w.heap.size w w' := by rw [← hz, ← hx, ← hy]; exact compare_any a b w (le_big ha) (le_big hb)
theorem canonical_v {a : ByteArray} {x z : Int} (w : World) (ha : a.size ≤ 4294967295) (hx : vS a = x) (hz : x = z) :
    Calls Tryz.prog 65 #[.string a] w fun e w' => e = .returned (.string (cS z)) ∧ w = w' := by rw [← hz, ← hx]; exact canonical_any a w (le_big ha)
theorem neg_v {a : ByteArray} {x z : Int} (w : World) (ha : a.size ≤ 4294967295) (hx : vS a = x) (hz : -x = z) :
    Calls Tryz.prog 93 #[.string a] w fun e w' => e = .returned (.string (cS z)) ∧ w = w' := by rw [← hz, ← hx]; exact neg_any a w (le_big ha)
theorem div_v {a b : ByteArray} {x y q r : Int} (w : World) (hG : Ground w) (ha : a.size ≤ 4294967295) (hb : b.size ≤ 4294967295) (hx : vS a = x) (hy : vS b = y) (h0 : y ≠ 0) (hq : Int.fdiv x y = q) (hr : Int.fmod x y = r) :
    Calls Tryz.prog 52 #[.string a, .string b] w fun e w' => e = .returned (.tuple #[.string (cS q), .string (cS r), .int .i64 0]) ∧ Below w.heap.size w w' := by
  rw [← hq, ← hr, ← hx, ← hy]; exact div_any a b w hG (le_big ha) (le_big hb) (by rw [hy]; exact h0)

end Go.Proofs.YtldohkfomdcpoaaGreatDoor
