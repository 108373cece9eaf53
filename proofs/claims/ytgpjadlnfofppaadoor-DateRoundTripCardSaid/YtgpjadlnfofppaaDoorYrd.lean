/- Layer 6: the digits of a text, one after the other. -/
import Derived.Test.YtgpjadlnfofppaaDoorYwh
namespace Go.Proofs.YtgpjadlnfofppaaDoor
open Go.RowKit Dat

/-- the byte at a place -/
def gB (s : ByteArray) (i : Nat) : UInt8 := s.data.toList.getD i 0
/-- which number a digit belongs to -/
def kOf (i : Nat) : Nat := if i ≤ 4 then 0 else if i ≤ 7 then 1 else 2
/-- the number j behind i bytes -/
def vOf (s : ByteArray) (j : Nat) : Nat → Int
  | 0 => 0
  | i + 1 => if i = 4 ∨ i = 7 then vOf s j i else if j = kOf i then 10 * vOf s j i + (gB s i).toNat - 48 else vOf s j i
/-- is a byte as the form asks? -/
def okB (s : ByteArray) (i : Nat) : Prop := (i = 4 ∨ i = 7) ∧ gB s i = 45 ∨ ¬ (i = 4 ∨ i = 7) ∧ isD (gB s i) = true
theorem isD_iff {c : UInt8} : isD c = true ↔ 48 ≤ (c.toNat : Int) ∧ (c.toNat : Int) ≤ 57 := by unfold isD; exact decide_eq_true_iff
theorem vOf_bound (s : ByteArray) (j : Nat) : ∀ i, (∀ p, p < i → okB s p) → 0 ≤ vOf s j i ∧ vOf s j i < 10 ^ i
  | 0, _ => ⟨by show (0 : Int) ≤ 0; omega, by show (0 : Int) < 1; omega⟩
  | i + 1, h => by
    have ih := vOf_bound s j i (fun p hp => h p (by omega))
    have hi := h i (by omega)
    rw [Int.pow_succ]
    unfold vOf
    by_cases h47 : i = 4 ∨ i = 7
    · rw [if_pos h47]
      omega
    · rw [if_neg h47]
      have hd : isD (gB s i) = true := by
        rcases hi with ⟨a, _⟩ | ⟨_, b⟩
        · exact absurd a h47
        · exact b
      have := isD_iff.1 hd
      by_cases hj : j = kOf i
      · rw [if_pos hj]
        omega
      · rw [if_neg hj]
        omega
theorem pow_nine {i : Nat} (h : i ≤ 9) : (10 : Int) ^ i ≤ 1000000000 := by
  have hi : i = 0 ∨ i = 1 ∨ i = 2 ∨ i = 3 ∨ i = 4 ∨ i = 5 ∨ i = 6 ∨ i = 7 ∨ i = 8 ∨ i = 9 := by omega
  rcases hi with rfl | rfl | rfl | rfl | rfl | rfl | rfl | rfl | rfl | rfl <;> decide
theorem ten_bytes {s : ByteArray} (h : s.size = 10) : ∃ c0 c1 c2 c3 c4 c5 c6 c7 c8 c9 : UInt8, s.data.toList = [c0, c1, c2, c3, c4, c5, c6, c7, c8, c9] := by
  have hl : s.data.toList.length = 10 := by rw [size_toList]; exact h
  generalize s.data.toList = l at hl
  match l, hl with
  | [c0, c1, c2, c3, c4, c5, c6, c7, c8, c9], _ => exact ⟨c0, c1, c2, c3, c4, c5, c6, c7, c8, c9, rfl⟩
theorem ext_list (s : ByteArray) (a b : Nat) : (s.extract a b).data.toList = (s.data.toList.drop a).take (b - a) := by
  rw [ByteArray.data_extract, Array.toList_extract, List.extract_eq_take_drop]
/-- the form, byte by byte; the numbers, digit by digit -/
theorem form_iff {s : ByteArray} (h : s.size = 10) : formP s ↔ ∀ p, p < 10 → okB s p := by
  obtain ⟨c0, c1, c2, c3, c4, c5, c6, c7, c8, c9, hl⟩ := ten_bytes h
  unfold formP okB gB
  rw [ext_list, ext_list, ext_list, hl]
  constructor
  · rintro ⟨_, h4, h7, a1, a2, a3⟩ p hp
    simp [allD] at h4 h7 a1 a2 a3
    have hi : p = 0 ∨ p = 1 ∨ p = 2 ∨ p = 3 ∨ p = 4 ∨ p = 5 ∨ p = 6 ∨ p = 7 ∨ p = 8 ∨ p = 9 := by omega
    rcases hi with rfl | rfl | rfl | rfl | rfl | rfl | rfl | rfl | rfl | rfl <;> simp [h4, h7, a1, a2, a3]
  · intro g
    have g0 := g 0 (by omega)
    have g1 := g 1 (by omega)
    have g2 := g 2 (by omega)
    have g3 := g 3 (by omega)
    have g4 := g 4 (by omega)
    have g5 := g 5 (by omega)
    have g6 := g 6 (by omega)
    have g7 := g 7 (by omega)
    have g8 := g 8 (by omega)
    have g9 := g 9 (by omega)
    simp at g0 g1 g2 g3 g4 g5 g6 g7 g8 g9
    refine ⟨h, ?_, ?_, ?_, ?_, ?_⟩ <;> simp [allD, *]
theorem vals_are {s : ByteArray} (h : s.size = 10) : numI (s.extract 0 (0 + 4)).data.toList = vOf s 0 10 ∧ numI (s.extract 5 (5 + 2)).data.toList = vOf s 1 10 ∧ numI (s.extract 8 (8 + 2)).data.toList = vOf s 2 10 := by
  obtain ⟨c0, c1, c2, c3, c4, c5, c6, c7, c8, c9, hl⟩ := ten_bytes h
  rw [ext_list, ext_list, ext_list, hl]
  refine ⟨?_, ?_, ?_⟩ <;> simp [numI, vOf, kOf, gB, hl]
theorem parseR_full {s : ByteArray} (h : s.size = 10) (hf : ∀ p, p < 10 → okB s p) : parseR s = ofR (vOf s 0 10) (vOf s 1 10) (vOf s 2 10) := by
  obtain ⟨e0, e1, e2⟩ := vals_are h
  rw [parseR_ok ((form_iff h).2 hf), e0, e1, e2]
theorem parseR_fail {s : ByteArray} (h : s.size = 10) {p : Nat} (hp : p < 10) (hf : ¬ okB s p) : parseR s = (0, 3) := parseR_bad (fun g => hf ((form_iff h).1 g p hp))
end Go.Proofs.YtgpjadlnfofppaaDoor
