/- The laws' own functions of layer 2: Great and Long; the contracts of the program's functions, by values. -/
import Derived.Test.YtldohkfomdcpoaaDoorFwi
import Derived.Test.YtldohkfomdcpoaaDoorFwp
namespace Go.Proofs.YtldohkfomdcpoaaDoor
open Go.RowKit Fra

/-- some string is longer than k bytes -/
def flong (k : Nat) (fs : List (ByteArray × ByteArray)) : Bool := fs.any fun f => decide (k < f.1.size) || decide (k < f.2.size)
theorem flong_true {k : Nat} {fs : List (ByteArray × ByteArray)} {f : ByteArray × ByteArray} (h : f ∈ fs) (hs : k < f.1.size ∨ k < f.2.size) : flong k fs = true := by
  unfold flong; rw [List.any_eq_true]; exact ⟨f, h, by simpa using hs⟩
theorem flong_false {k : Nat} {fs : List (ByteArray × ByteArray)} (h : ∀ f ∈ fs, f.1.size ≤ k ∧ f.2.size ≤ k) : flong k fs = false := by
  unfold flong; rw [List.any_eq_false]; intro f hf; have := h f hf; simp; omega
def rowOf : List (ByteArray × ByteArray) → List Value
  | [] => []
  | f :: r => .string f.1 :: .string f.2 :: rowOf r
theorem rowOf_get : ∀ (fs : List (ByteArray × ByteArray)) (i : Nat), i < fs.length → (rowOf fs)[i * 2]? = some (.string (fs.getD i (⟨#[]⟩, ⟨#[]⟩)).1) ∧ (rowOf fs)[i * 2 + 1]? = some (.string (fs.getD i (⟨#[]⟩, ⟨#[]⟩)).2)
  | [], i, h => by simp at h
  | f :: r, 0, _ => ⟨rfl, rfl⟩
  | f :: r, i + 1, h => by
    have ih := rowOf_get r i (by simpa using h)
    rw [show (i + 1) * 2 = i * 2 + 1 + 1 by omega]
    simpa [rowOf] using ih
theorem fgreat_cells (w : World) (fs : List (ByteArray × ByteArray)) : ∀ i, i < fs.length → (w.alloc (.cells (rowOf fs).toArray 24)).cell? ⟨w.heap.size, i * 2, none⟩ = some (.string (fs.getD i (⟨#[]⟩, ⟨#[]⟩)).1) ∧
    (w.alloc (.cells (rowOf fs).toArray 24)).cell? ⟨w.heap.size, i * 2 + 1, none⟩ = some (.string (fs.getD i (⟨#[]⟩, ⟨#[]⟩)).2) := by
  intro i hi
  rw [cell_of_row _ _ _ _ _ _ (heap_alloc_new _ _), cell_of_row _ _ _ _ _ _ (heap_alloc_new _ _)]
  simpa using rowOf_get fs i hi

set_option maxRecDepth 100000 in
set_option maxHeartbeats 1000000 in
theorem rGreat_any (w : World) (b n : Nat) (fs : List (ByteArray × ByteArray)) (hn : fs.length = n) (hlim : n ≤ 1000) (hc : ∀ i, i < n → w.cell? ⟨b, i * 2, none⟩ = some (.string (fs.getD i (⟨#[]⟩, ⟨#[]⟩)).1) ∧ w.cell? ⟨b, i * 2 + 1, none⟩ = some (.string (fs.getD i (⟨#[]⟩, ⟨#[]⟩)).2)) :
    Calls Tryd.prog 9 #[.slice (some ⟨b, 0, none⟩) n n] w fun e w' => e = .returned (.bool (flong 60 fs)) ∧ w = w' := by
  have HN := Lib.hid hn
  clear hn
  go_enter Tryd.func9, Tryd.ntmps9
  go_wp2_with fail
  go_loopw [3] (fun iv wr => ∃ k : Nat, k ≤ n ∧ iv = .int .i64 (k : Int) ∧ flong 60 (fs.take k) = false ∧ wr = w) (fun iv _ => n - (intOf iv).toNat)
  case atStart => exact ⟨0, Nat.zero_le _, rfl, rfl, rfl⟩
  case round =>
    obtain ⟨k, hk, rfl, hl, rfl⟩ := hrel
    have HL := Lib.hid hl
    clear hl
    by_cases hlt : k < n
    · obtain ⟨⟨sk, tk⟩, hsk⟩ : ∃ f, f = fs.getD k (⟨#[]⟩, ⟨#[]⟩) := ⟨_, rfl⟩
      have hck : wr.cell? ⟨b, k * 2, none⟩ = some (.string sk) ∧ wr.cell? ⟨b, k * 2 + 1, none⟩ = some (.string tk) := by have := hc k hlt; rwa [← hsk] at this
      have htk : fs.take (k + 1) = fs.take k ++ [(sk, tk)] := by
        rw [List.take_succ_eq_append_getElem (by rw [HN.out]; exact hlt), hsk]
        simp [show k < fs.length by rw [HN.out]; exact hlt]
      obtain ⟨hc1, hc2⟩ := hck
      have HC := Lib.hid hc
      have HT := Lib.hid htk
      clear hc hsk htk
      have hLt : ∀ (h : 60 < sk.size ∨ 60 < tk.size), flong 60 fs = true := fun h =>
        flong_true (f := (sk, tk)) (List.mem_of_mem_take (i := k + 1) (by rw [HT.out]; simp)) h
      have hLf : ∀ (h : ¬ 60 < sk.size) (h' : ¬ 60 < tk.size), flong 60 (fs.take (k + 1)) = false := fun h h' => by
        have := HL.out
        unfold flong at *
        rw [HT.out, List.any_append, this]
        simp; omega
      have HLT := Lib.hid hLt
      have HLF := Lib.hid hLf
      clear hLt hLf
      by_cases hs : 60 < sk.size
      · have HLL := Lib.hid (HLT.out (.inl hs))
        go_wp2_with fail
        go_ret
        exact ⟨by rw [HLL.out]; rfl, rfl⟩
      · by_cases ht : 60 < tk.size
        · have HLL := Lib.hid (HLT.out (.inr ht))
          go_wp2_with fail
          go_ret
          exact ⟨by rw [HLL.out]; rfl, rfl⟩
        · have HLL := Lib.hid (HLF.out hs ht)
          go_wp2_with fail
          go_roundw
          case rel => exact ⟨k + 1, by omega, by simp, HLL.out, trivial⟩
          case measure => simp [intOf]; omega
    · obtain rfl : k = n := by omega
      have hL : flong 60 fs = false := by
        have := HL.out
        rwa [List.take_of_length_le (by rw [HN.out]; exact Nat.le_refl _)] at this
      have HLL := Lib.hid hL
      clear hL hc
      go_wp2_with fail
      go_ret
      exact ⟨by rw [HLL.out]; rfl, rfl⟩

set_option maxRecDepth 100000 in
set_option maxHeartbeats 1000000 in
theorem rLong_any (w : World) (b n : Nat) (fs : List (ByteArray × ByteArray)) (hn : fs.length = n) (hlim : n ≤ 1000) (hc : ∀ i, i < n → w.cell? ⟨b, i * 2, none⟩ = some (.string (fs.getD i (⟨#[]⟩, ⟨#[]⟩)).1) ∧ w.cell? ⟨b, i * 2 + 1, none⟩ = some (.string (fs.getD i (⟨#[]⟩, ⟨#[]⟩)).2)) :
    Calls Tryd.prog 26 #[.slice (some ⟨b, 0, none⟩) n n] w fun e w' => e = .returned (.bool (flong 13 fs)) ∧ w = w' := by
  have HN := Lib.hid hn
  clear hn
  go_enter Tryd.func26, Tryd.ntmps26
  go_wp2_with fail
  go_loopw [3] (fun iv wr => ∃ k : Nat, k ≤ n ∧ iv = .int .i64 (k : Int) ∧ flong 13 (fs.take k) = false ∧ wr = w) (fun iv _ => n - (intOf iv).toNat)
  case atStart => exact ⟨0, Nat.zero_le _, rfl, rfl, rfl⟩
  case round =>
    obtain ⟨k, hk, rfl, hl, rfl⟩ := hrel
    have HL := Lib.hid hl
    clear hl
    by_cases hlt : k < n
    · obtain ⟨⟨sk, tk⟩, hsk⟩ : ∃ f, f = fs.getD k (⟨#[]⟩, ⟨#[]⟩) := ⟨_, rfl⟩
      have hck : wr.cell? ⟨b, k * 2, none⟩ = some (.string sk) ∧ wr.cell? ⟨b, k * 2 + 1, none⟩ = some (.string tk) := by have := hc k hlt; rwa [← hsk] at this
      have htk : fs.take (k + 1) = fs.take k ++ [(sk, tk)] := by
        rw [List.take_succ_eq_append_getElem (by rw [HN.out]; exact hlt), hsk]
        simp [show k < fs.length by rw [HN.out]; exact hlt]
      obtain ⟨hc1, hc2⟩ := hck
      have HC := Lib.hid hc
      have HT := Lib.hid htk
      clear hc hsk htk
      have hLt : ∀ (h : 13 < sk.size ∨ 13 < tk.size), flong 13 fs = true := fun h =>
        flong_true (f := (sk, tk)) (List.mem_of_mem_take (i := k + 1) (by rw [HT.out]; simp)) h
      have hLf : ∀ (h : ¬ 13 < sk.size) (h' : ¬ 13 < tk.size), flong 13 (fs.take (k + 1)) = false := fun h h' => by
        have := HL.out
        unfold flong at *
        rw [HT.out, List.any_append, this]
        simp; omega
      have HLT := Lib.hid hLt
      have HLF := Lib.hid hLf
      clear hLt hLf
      by_cases hs : 13 < sk.size
      · have HLL := Lib.hid (HLT.out (.inl hs))
        go_wp2_with fail
        go_ret
        exact ⟨by rw [HLL.out]; rfl, rfl⟩
      · by_cases ht : 13 < tk.size
        · have HLL := Lib.hid (HLT.out (.inr ht))
          go_wp2_with fail
          go_ret
          exact ⟨by rw [HLL.out]; rfl, rfl⟩
        · have HLL := Lib.hid (HLF.out hs ht)
          go_wp2_with fail
          go_roundw
          case rel => exact ⟨k + 1, by omega, by simp, HLL.out, trivial⟩
          case measure => simp [intOf]; omega
    · obtain rfl : k = n := by omega
      have hL : flong 13 fs = false := by
        have := HL.out
        rwa [List.take_of_length_le (by rw [HN.out]; exact Nat.le_refl _)] at this
      have HLL := Lib.hid hL
      clear hL hc
      go_wp2_with fail
      go_ret
      exact ⟨by rw [HLL.out]; rfl, rfl⟩

end Go.Proofs.YtldohkfomdcpoaaDoor
