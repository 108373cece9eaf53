/- The laws' own functions of layer 2: Great and Long; the contracts of the program's functions, by values. -/
import Derived.Test.YtldohkfomdcpoaaGreatDoorMC
namespace Go.Proofs.YtldohkfomdcpoaaGreatDoor
open Go.RowKit Fra

/-- some string is longer than k bytes -/
def flong (k : Nat) (fs : List (ByteArray × ByteArray)) : Bool := fs.any fun f => decide (k < f.1.size) || decide (k < f.2.size)
theorem flong_true {k : Nat} {fs : List (ByteArray × ByteArray)} {f : ByteArray × ByteArray} (h : f ∈ fs) (hs : k < f.1.size ∨ k < f.2.size) : flong k fs = true := by
  unfold flong; rw [List.any_eq_true]; exact ⟨f, h, by simpa using hs⟩
theorem flong_false {k : Nat} {fs : List (ByteArray × ByteArray)} (h : ∀ f ∈ fs, f.1.size ≤ k ∧ f.2.size ≤ k) : flong k fs = false := by
  unfold flong; rw [List.any_eq_false]; intro f hf; have := h f hf; simp; omega
def rowOf : List (ByteArray × ByteArray) → List Value
  | [] => []
  | f :: r => .string f.1 :: .string f.2 :: rowOf r
theorem rowOf_get : ∀ (fs : List (ByteArray × ByteArray)) (i : Nat), i < fs.length → (rowOf fs)[i * 2]? = some (.string (fs.getD i (⟨#[]⟩, ⟨#[]⟩)).1) ∧ (rowOf fs)[i * 2 + 1]? = some (.string (fs.getD i (⟨#[]⟩, ⟨#[]⟩)).2)
  | [], i, h => by simp at h
  | f :: r, 0, _ => ⟨rfl, rfl⟩
  | f :: r, i + 1, h => by
    have ih := rowOf_get r i (by simpa using h)
    rw [show (i + 1) * 2 = i * 2 + 1 + 1 by omega]
    simpa [rowOf] using ih
theorem fgreat_cells (w : World) (fs : List (ByteArray × ByteArray)) : ∀ i, i < fs.length → (w.alloc (.cells (rowOf fs).toArray 24)).cell? ⟨w.heap.size, i * 2, none⟩ = some (.string (fs.getD i (⟨#[]⟩, ⟨#[]⟩)).1) ∧
    (w.alloc (.cells (rowOf fs).toArray 24)).cell? ⟨w.heap.size, i * 2 + 1, none⟩ = some (.string (fs.getD i (⟨#[]⟩, ⟨#[]⟩)).2) := by
  intro i hi
  rw [cell_of_row _ _ _ _ _ _ (heap_alloc_new _ _), cell_of_row _ _ _ _ _ _ (heap_alloc_new _ _)]
  simpa using rowOf_get fs i hi

set_option maxRecDepth 100000 in
set_option maxHeartbeats 1000000 in
theorem rGreat_any (w : World) (b n : Nat) (fs : List (ByteArray × ByteArray)) (hn : fs.length = n) (hlim : n ≤ 1000) (hc : ∀ i, i < n → w.cell? ⟨b, i * 2, none⟩ = some (.string (fs.getD i (⟨#[]⟩, ⟨#[]⟩)).1) ∧ w.cell? ⟨b, i * 2 + 1, none⟩ = some (.string (fs.getD i (⟨#[]⟩, ⟨#[]⟩)).2)) :
    Calls Tryz.prog 6 #[.slice (some ⟨b, 0, none⟩) n n] w fun e w' => e = .returned (.bool (flong 60 fs)) ∧ w = w' := by
  have HN := Lib.hid hn
  clear hn
  go_enter Tryz.func6, Tryz.ntmps6
  go_wp2_with fail
  go_loopw [3] (fun iv wr => ∃ k : Nat, k ≤ n ∧ iv = .int .i64 (k : Int) ∧ flong 60 (fs.take k) = false ∧ wr = w) (fun iv _ => n - (intOf iv).toNat)
  case atStart => exact ⟨0, Nat.zero_le _, rfl, rfl, rfl⟩
  case round =>
    obtain ⟨k, hk, rfl, hl, rfl⟩ := hrel
    have HL := Lib.hid hl
    clear hl
    by_cases hlt : k < n
    · obtain ⟨⟨sk, tk⟩, hsk⟩ : ∃ f, f = fs.getD k (⟨#[]⟩, ⟨#[]⟩) := ⟨_, rfl⟩
      have hck : wr.cell? ⟨b, k * 2, none⟩ = some (.string sk) ∧ wr.cell? ⟨b, k * 2 + 1, none⟩ = some (.string tk) := by have := hc k hlt; rwa [← hsk] at this
      have htk : fs.take (k + 1) = fs.take k ++ [(sk, tk)] := by
        rw [List.take_succ_eq_append_getElem (by rw [HN.out]; exact hlt), hsk]
        simp [show k < fs.length by rw [HN.out]; exact hlt]
      obtain ⟨hc1, hc2⟩ := hck
      have HC := Lib.hid hc
      have HT := Lib.hid htk
      clear hc hsk htk
      have hLt : ∀ (h : 60 < sk.size ∨ 60 < tk.size), flong 60 fs = true := fun h =>
        flong_true (f := (sk, tk)) (List.mem_of_mem_take (i := k + 1) (by rw [HT.out]; simp)) h
      have hLf : ∀ (h : ¬ 60 < sk.size) (h' : ¬ 60 < tk.size), flong 60 (fs.take (k + 1)) = false := fun h h' => by
        have := HL.out
        unfold flong at *
        rw [HT.out, List.any_append, this]
        simp; omega
      have HLT := Lib.hid hLt
      have HLF := Lib.hid hLf
      clear hLt hLf
      by_cases hs : 60 < sk.size
      · have HLL := Lib.hid (HLT.out (.inl hs))
        go_wp2_with fail
        go_ret
        exact ⟨by rw [HLL.out]; rfl, rfl⟩
      · by_cases ht : 60 < tk.size
        · have HLL := Lib.hid (HLT.out (.inr ht))
          go_wp2_with fail
          go_ret
          exact ⟨by rw [HLL.out]; rfl, rfl⟩
        · have HLL := Lib.hid (HLF.out hs ht)
          go_wp2_with fail
          go_roundw
          case rel => exact ⟨k + 1, by omega, by simp, HLL.out, trivial⟩
          case measure => simp [intOf]; omega
    · obtain rfl : k = n := by omega
      have hL : flong 60 fs = false := by
        have := HL.out
        rwa [List.take_of_length_le (by rw [HN.out]; exact Nat.le_refl _)] at this
      have HLL := Lib.hid hL
      clear hL hc
      go_wp2_with fail
      go_ret
      exact ⟨by rw [HLL.out]; rfl, rfl⟩

set_option maxRecDepth 100000 in
set_option maxHeartbeats 1000000 in
theorem rLong_any (w : World) (b n : Nat) (fs : List (ByteArray × ByteArray)) (hn : fs.length = n) (hlim : n ≤ 1000) (hc : ∀ i, i < n → w.cell? ⟨b, i * 2, none⟩ = some (.string (fs.getD i (⟨#[]⟩, ⟨#[]⟩)).1) ∧ w.cell? ⟨b, i * 2 + 1, none⟩ = some (.string (fs.getD i (⟨#[]⟩, ⟨#[]⟩)).2)) :
    Calls Tryz.prog 30 #[.slice (some ⟨b, 0, none⟩) n n] w fun e w' => e = .returned (.bool (flong 13 fs)) ∧ w = w' := by
  have HN := Lib.hid hn
  clear hn
  go_enter Tryz.func30, Tryz.ntmps30
  go_wp2_with fail
  go_loopw [3] (fun iv wr => ∃ k : Nat, k ≤ n ∧ iv = .int .i64 (k : Int) ∧ flong 13 (fs.take k) = false ∧ wr = w) (fun iv _ => n - (intOf iv).toNat)
  case atStart => exact ⟨0, Nat.zero_le _, rfl, rfl, rfl⟩
  case round =>
    obtain ⟨k, hk, rfl, hl, rfl⟩ := hrel
    have HL := Lib.hid hl
    clear hl
    by_cases hlt : k < n
    · obtain ⟨⟨sk, tk⟩, hsk⟩ : ∃ f, f = fs.getD k (⟨#[]⟩, ⟨#[]⟩) := ⟨_, rfl⟩
      have hck : wr.cell? ⟨b, k * 2, none⟩ = some (.string sk) ∧ wr.cell? ⟨b, k * 2 + 1, none⟩ = some (.string tk) := by have := hc k hlt; rwa [← hsk] at this
      have htk : fs.take (k + 1) = fs.take k ++ [(sk, tk)] := by
        rw [List.take_succ_eq_append_getElem (by rw [HN.out]; exact hlt), hsk]
        simp [show k < fs.length by rw [HN.out]; exact hlt]
      obtain ⟨hc1, hc2⟩ := hck
      have HC := Lib.hid hc
      have HT := Lib.hid htk
      clear hc hsk htk
      have hLt : ∀ (h : 13 < sk.size ∨ 13 < tk.size), flong 13 fs = true := fun h =>
        flong_true (f := (sk, tk)) (List.mem_of_mem_take (i := k + 1) (by rw [HT.out]; simp)) h
      have hLf : ∀ (h : ¬ 13 < sk.size) (h' : ¬ 13 < tk.size), flong 13 (fs.take (k + 1)) = false := fun h h' => by
        have := HL.out
        unfold flong at *
        rw [HT.out, List.any_append, this]
        simp; omega
      have HLT := Lib.hid hLt
      have HLF := Lib.hid hLf
      clear hLt hLf
      by_cases hs : 13 < sk.size
      · have HLL := Lib.hid (HLT.out (.inl hs))
        go_wp2_with fail
        go_ret
        exact ⟨by rw [HLL.out]; rfl, rfl⟩
      · by_cases ht : 13 < tk.size
        · have HLL := Lib.hid (HLT.out (.inr ht))
          go_wp2_with fail
          go_ret
          exact ⟨by rw [HLL.out]; rfl, rfl⟩
        · have HLL := Lib.hid (HLF.out hs ht)
          go_wp2_with fail
          go_roundw
          case rel => exact ⟨k + 1, by omega, by simp, HLL.out, trivial⟩
          case measure => simp [intOf]; omega
    · obtain rfl : k = n := by omega
      have hL : flong 13 fs = false := by
        have := HL.out
        rwa [List.take_of_length_le (by rw [HN.out]; exact Nat.le_refl _)] at this
      have HLL := Lib.hid hL
      clear hL hc
      go_wp2_with fail
      go_ret
      exact ⟨by rw [HLL.out]; rfl, rfl⟩

end Go.Proofs.YtldohkfomdcpoaaGreatDoor

/- The contracts of the program's functions of layer 2, by values; the laws' awake. -/
namespace Go.Proofs.YtldohkfomdcpoaaGreatDoor
open Go.RowKit Fra

/-- two strings with a value, of a size that every function bears -/
def Val (n d : ByteArray) (x : Int × Int) : Prop := raw n d = x ∧ n.size ≤ 99998 ∧ d.size ≤ 99998
theorem Val.pos {n d : ByteArray} {x : Int × Int} (h : Val n d x) : 0 < x.2 := by rw [← h.1]; exact raw_pos _ _
theorem Val.of {k : Nat} {p : Int × Int} (h : CapP k p) (hp : 0 < p.2) (hk : k ≤ 99997) : Val (cS p.1) (cD p.2) p :=
  ⟨raw_can hp, by have := cS_size h.1; omega, by have := cD_size h.2; omega⟩
theorem Val.zero : Val ⟨#[]⟩ ⟨#[]⟩ (0, 1) := ⟨raw_nil, by decide, by decide⟩
theorem CapP.zero {k : Nat} (h : 1 ≤ k) : CapP k (0, 1) := ⟨by unfold Cap; have := Nat.pow_pos (n := k) (show 0 < 10 by decide); exact this, Cap.one h⟩
theorem CapP.sub {k l : Nat} {x y : Int × Int} (h : CapP k x) (g : CapP l y) (hx : 0 < x.2) (hy : 0 < y.2) : CapP (k + l + 1) (subP x y) := by
  refine CapP.of_red (Int.mul_pos hx hy) (Cap.add (h.1.mul g.2) ?_) ((h.2.mul g.2).mono (by omega))
  have := g.1.neg.mul h.2
  rwa [Nat.add_comm] at this
theorem subP_pos {x y : Int × Int} (hx : 0 < x.2) (hy : 0 < y.2) : 0 < (subP x y).2 := red_pos (Int.mul_pos hx hy)
/-- a fraction that the law is given -/
structure Giv (k : Nat) (n d : ByteArray) (x : Int × Int) : Prop where
  eq : raw n d = x
  num : n.size ≤ k
  den : d.size ≤ k
theorem Giv.arg {k : Nat} {n d : ByteArray} {x : Int × Int} (h : Giv k n d x) (hk : k ≤ 99998) : Val n d x := ⟨h.eq, Nat.le_trans h.num hk, Nat.le_trans h.den hk⟩
theorem Giv.cap {k : Nat} {n d : ByteArray} {x : Int × Int} (h : Giv k n d x) (hk : 1 ≤ k) : CapP k x := by rw [← h.eq]; exact CapP.of_raw hk h.num h.den
theorem Giv.pos {k : Nat} {n d : ByteArray} {x : Int × Int} (h : Giv k n d x) : 0 < x.2 := by rw [← h.eq]; exact raw_pos _ _

theorem le_k {n : Nat} (h : n ≤ 99998) : n ≤ 100000 := by omega
section
variable {n d m e : ByteArray} {x y z : Int × Int} (w : World) (hG : Ground w)
include hG
theorem fAdd_v (h1 : Val n d x) (h2 : Val m e y) (hz : addP x y = z) : Calls Tryz.prog 24 #[.agg #[.string n, .string d], .agg #[.string m, .string e]] w (FPost w z) := by
  rw [← hz, ← h1.1, ← h2.1]; exact fAdd_any n d m e w hG (le_k h1.2.1) (le_k h1.2.2) (le_k h2.2.1) (le_k h2.2.2)
theorem fSub_v (h1 : Val n d x) (h2 : Val m e y) (hz : subP x y = z) : Calls Tryz.prog 26 #[.agg #[.string n, .string d], .agg #[.string m, .string e]] w (FPost w z) := by
  rw [← hz, ← h1.1, ← h2.1]; exact fSub_any n d m e w hG (le_k h1.2.1) (le_k h1.2.2) (le_k h2.2.1) (le_k h2.2.2)
theorem fMul_v (h1 : Val n d x) (h2 : Val m e y) (hz : mulP x y = z) : Calls Tryz.prog 28 #[.agg #[.string n, .string d], .agg #[.string m, .string e]] w (FPost w z) := by
  rw [← hz, ← h1.1, ← h2.1]; exact fMul_any n d m e w hG (le_k h1.2.1) (le_k h1.2.2) (le_k h2.2.1) (le_k h2.2.2)
theorem fNeg_v (h1 : Val n d x) (hz : negP x = z) : Calls Tryz.prog 22 #[.agg #[.string n, .string d]] w (FPost w z) := by
  rw [← hz, ← h1.1]; exact fNeg_any n d w hG (le_k h1.2.1) (le_k h1.2.2)
theorem fQuo_v (h1 : Val n d x) (h2 : Val m e y) (h0 : y.1 ≠ 0) (hz : quoP x y = z) : Calls Tryz.prog 20 #[.agg #[.string n, .string d], .agg #[.string m, .string e]] w fun r w' => r = .returned (.tuple #[.agg #[.string (cS z.1), .string (cD z.2)], .int .i64 0]) ∧ Below w.heap.size w w' := by
  rw [← hz, ← h1.1, ← h2.1]; exact fQuo_any n d m e w hG (le_k h1.2.1) (le_k h1.2.2) (le_k h2.2.1) (le_k h2.2.2) (by rw [h2.1]; exact h0)
theorem fQuo_z (h2 : Val m e y) (h0 : y.1 = 0) : Calls Tryz.prog 20 #[.agg #[.string n, .string d], .agg #[.string m, .string e]] w fun r w' => r = .returned (.tuple #[.agg #[.string ⟨#[]⟩, .string ⟨#[]⟩], .int .i64 10]) ∧ Below w.heap.size w w' :=
  fQuo_zero n d m e w hG (le_k h2.2.1) (by rw [h2.1]; exact h0)
theorem fCompare_v {c : Int} (h1 : Val n d x) (h2 : Val m e y) (hz : cmpP x y = c) : Calls Tryz.prog 16 #[.agg #[.string n, .string d], .agg #[.string m, .string e]] w fun r w' => r = .returned (.int .i64 c) ∧ Below w.heap.size w w' := by
  rw [← hz, ← h1.1, ← h2.1, ← cmpS_eq]; exact fCompare_any n d m e w hG (le_k h1.2.1) (le_k h1.2.2) (le_k h2.2.1) (le_k h2.2.2)
theorem fFloor_v {c : Int} (h1 : Val n d x) (hz : Int.fdiv x.1 x.2 = c) : Calls Tryz.prog 18 #[.agg #[.string n, .string d]] w (StrPost w c) := by
  rw [← hz, ← h1.1]; exact fFloor_any n d w hG (le_k h1.2.1) (le_k h1.2.2)
theorem fParts_v (h1 : Val n d x) (hz : low x = z) : Calls Tryz.prog 8 #[.agg #[.string n, .string d]] w fun r w' => r = .returned (.tuple #[.string (cS z.1), .string (cS z.2)]) ∧ Below w.heap.size w w' := by
  rw [← hz, ← h1.1]; exact fParts_any n d w hG (le_k h1.2.1) (le_k h1.2.2)
theorem fPrint_v (h1 : Val n d x) (hz : low x = z) : Calls Tryz.prog 35 #[.agg #[.string n, .string d]] w fun r w' => r = .returned (.string (textP z)) ∧ Below w.heap.size w w' := by
  rw [← hz, ← h1.1]; exact fPrint_any n d w hG (le_k h1.2.1) (le_k h1.2.2)
theorem fCheck_v (h1 : Val n d x) (hl : Low x) (hn : n = cS x.1) (hd : d = cD x.2) : Calls Tryz.prog 12 #[.agg #[.string n, .string d]] w fun r w' => r = .returned (.int .i64 0) ∧ Below w.heap.size w w' :=
  fCheck_ok n d w hG (le_k h1.2.1) (le_k h1.2.2) (by rw [h1.1, hl.eq]; exact ⟨hn.symm, hd.symm⟩)
theorem fNew_v {a b : ByteArray} {p q : Int} (ha : a.size ≤ 100000) (hb : b.size ≤ 100000) (h1 : vS a = p) (h2 : vS b = q) (h0 : q ≠ 0) (hz : redS p q = z) : Calls Tryz.prog 10 #[.string a, .string b] w fun e w' => e = .returned (.tuple #[.agg #[.string (cS z.1), .string (cD z.2)], .int .i64 0]) ∧ Below w.heap.size w w' := by
  rw [← hz, ← h1, ← h2]; exact fNew_any a b w hG ha hb (by rw [h2]; exact h0)
theorem fOf_v {a : ByteArray} {p : Int} (ha : a.size ≤ 100000) (h1 : vS a = p) : Calls Tryz.prog 14 #[.string a] w fun e w' => e = .returned (.agg #[.string (cS p), .string ⟨#[]⟩]) ∧ Below w.heap.size w w' := by
  rw [← h1]; exact fOf_any a w hG ha
theorem fPower_v {c : Int} (h1 : Val n d x) (hc1 : -400 ≤ c) (hc2 : c ≤ 400) (h0 : x.1 ≠ 0 ∨ 0 ≤ c) (hz : powP (low x) c = z) : Calls Tryz.prog 31 #[.agg #[.string n, .string d], .int .i64 c] w fun r w' => r = .returned (.tuple #[.agg #[.string (cS z.1), .string (cD z.2)], .int .i64 0]) ∧ Below w.heap.size w w' := by
  have hp := h1.pos
  by_cases hc : 0 ≤ c
  · obtain ⟨k, rfl⟩ : ∃ k : Nat, c = k := ⟨c.toNat, by omega⟩
    have := fPower_pos n d k w hG (le_k h1.2.1) (le_k h1.2.2) (by omega)
    rw [h1.1] at this
    rw [← hz, powP_nat (Low.of_low hp)]; exact this
  · obtain ⟨k, hk⟩ : ∃ k : Nat, c = -(k : Int) := ⟨(-c).toNat, by omega⟩
    have hx0 : x.1 ≠ 0 := h0.resolve_right hc
    have hl0 : (low x).1 ≠ 0 := by
      intro e
      have := low_cross x
      rw [e, Int.zero_mul] at this
      rcases Int.mul_eq_zero.1 this.symm with h | h
      · exact hx0 h
      · have := low_pos hp; omega
    have := fPower_neg n d k w hG h1.2.1 h1.2.2 (by omega) (by omega) (by rw [h1.1]; exact hx0)
    rw [h1.1] at this
    rw [← hz, hk, powP_neg hp Same.low hl0]; exact this
theorem fPower_z {c : Int} (h1 : Val n d x) (hc1 : -400 ≤ c) (hc2 : c < 0) (h0 : x.1 = 0) : Calls Tryz.prog 31 #[.agg #[.string n, .string d], .int .i64 c] w fun r w' => r = .returned (.tuple #[.agg #[.string ⟨#[]⟩, .string ⟨#[]⟩], .int .i64 10]) ∧ Below w.heap.size w w' := by
  obtain ⟨k, hk⟩ : ∃ k : Nat, c = -(k : Int) := ⟨(-c).toNat, by omega⟩
  rw [hk]
  exact fPower_neg_zero n d k w hG h1.2.1 (by omega) (by omega) (by rw [h1.1]; exact h0)

/-! ### The chapter's examples -/
theorem aw_half : Calls Tryz.prog 10 #[.string ⟨#[49]⟩, .string ⟨#[50]⟩] w fun e w' => e = .returned (.tuple #[.agg #[.string ⟨#[49]⟩, .string ⟨#[50]⟩], .int .i64 0]) ∧ Below w.heap.size w w' := by
  have := fNew_v (z := (1, 2)) w hG (a := ⟨#[49]⟩) (b := ⟨#[50]⟩) (p := 1) (q := 2) (by decide) (by decide) (by decide +kernel) (by decide +kernel) (by decide) (by decide +kernel)
  rwa [show cS (1, 2).1 = ⟨#[49]⟩ by decide +kernel, show cD (1, 2).2 = ⟨#[50]⟩ by decide +kernel] at this
theorem aw_third : Calls Tryz.prog 10 #[.string ⟨#[49]⟩, .string ⟨#[51]⟩] w fun e w' => e = .returned (.tuple #[.agg #[.string ⟨#[49]⟩, .string ⟨#[51]⟩], .int .i64 0]) ∧ Below w.heap.size w w' := by
  have := fNew_v (z := (1, 3)) w hG (a := ⟨#[49]⟩) (b := ⟨#[51]⟩) (p := 1) (q := 3) (by decide) (by decide) (by decide +kernel) (by decide +kernel) (by decide) (by decide +kernel)
  rwa [show cS (1, 3).1 = ⟨#[49]⟩ by decide +kernel, show cD (1, 3).2 = ⟨#[51]⟩ by decide +kernel] at this
theorem aw_power : Calls Tryz.prog 31 #[.agg #[.string ⟨#[45, 50]⟩, .string ⟨#[51]⟩], .int .i64 (-3)] w fun e w' => e = .returned (.tuple #[.agg #[.string ⟨#[45, 50, 55]⟩, .string ⟨#[56]⟩], .int .i64 0]) ∧ Below w.heap.size w w' := by
  have := fPower_v (x := (-2, 3)) (z := (-27, 8)) w hG (n := ⟨#[45, 50]⟩) (d := ⟨#[51]⟩) (c := -3) ⟨by decide +kernel, by decide, by decide⟩ (by decide) (by decide) (.inl (by decide)) (by decide +kernel)
  rwa [show cS (-27, 8).1 = ⟨#[45, 50, 55]⟩ by decide +kernel, show cD (-27, 8).2 = ⟨#[56]⟩ by decide +kernel] at this
theorem aw_add : Calls Tryz.prog 24 #[.agg #[.string ⟨#[49]⟩, .string ⟨#[50]⟩], .agg #[.string ⟨#[49]⟩, .string ⟨#[51]⟩]] w fun e w' => e = .returned (.agg #[.string ⟨#[53]⟩, .string ⟨#[54]⟩]) ∧ Below w.heap.size w w' := by
  have := fAdd_v (x := (1, 2)) (y := (1, 3)) (z := (5, 6)) w hG (n := ⟨#[49]⟩) (d := ⟨#[50]⟩) (m := ⟨#[49]⟩) (e := ⟨#[51]⟩) ⟨by decide +kernel, by decide, by decide⟩ ⟨by decide +kernel, by decide, by decide⟩ (by decide +kernel)
  unfold FPost at this
  rwa [show cS (5, 6).1 = ⟨#[53]⟩ by decide +kernel, show cD (5, 6).2 = ⟨#[54]⟩ by decide +kernel] at this
theorem aw_floor : Calls Tryz.prog 18 #[.agg #[.string ⟨#[45, 55]⟩, .string ⟨#[50]⟩]] w fun e w' => e = .returned (.string ⟨#[45, 52]⟩) ∧ Below w.heap.size w w' := by
  have := fFloor_v (x := (-7, 2)) (c := -4) w hG (n := ⟨#[45, 55]⟩) (d := ⟨#[50]⟩) ⟨by decide +kernel, by decide, by decide⟩ (by decide +kernel)
  unfold StrPost at this
  rwa [show cS (-4) = ⟨#[45, 52]⟩ by decide +kernel] at this
theorem aw_print : Calls Tryz.prog 35 #[.agg #[.string ⟨#[54]⟩, .string ⟨#[45, 52]⟩]] w fun e w' => e = .returned (.string ⟨#[45, 51, 47, 50]⟩) ∧ Below w.heap.size w w' := by
  have := fPrint_v (x := (-6, 4)) (z := (-3, 2)) w hG (n := ⟨#[54]⟩) (d := ⟨#[45, 52]⟩) ⟨by decide +kernel, by decide, by decide⟩ (by decide +kernel)
  rwa [show textP (-3, 2) = ⟨#[45, 51, 47, 50]⟩ by decide +kernel] at this
theorem aw_check : Calls Tryz.prog 12 #[.agg #[.string ⟨#[50]⟩, .string ⟨#[52]⟩]] w fun e w' => e = .returned (.int .i64 1) ∧ Below w.heap.size w w' :=
  fCheck_bad ⟨#[50]⟩ ⟨#[52]⟩ w hG (by decide) (by decide) (by decide +kernel)
end

end Go.Proofs.YtldohkfomdcpoaaGreatDoor

/- The laws' awake of layer 2: the walk. -/
namespace Go.Proofs.YtldohkfomdcpoaaGreatDoor
open Go.RowKit Fra

set_option maxRecDepth 100000 in
set_option maxHeartbeats 4000000 in
theorem fawake_any (w : World) (hG : Ground w) :
    Calls Tryz.prog 7 #[] w fun e w' => e = .returned (.bool true) ∧ Below w.heap.size w w' := by
  go_enter Tryz.func7, Tryz.ntmps7
  go_wp2_with fail
  refine (aw_half w hG).mono ?_
  rintro _ w1 ⟨rfl, hB⟩
  go_upto_region 2 with fail
  obtain ⟨b1, hb1⟩ : ∃ b, b = w1.heap.size := ⟨_, rfl⟩
  obtain ⟨W1, hW1⟩ : ∃ W, W = w1.alloc (.cells #[.string ⟨#[49]⟩, .string ⟨#[50]⟩] 24) := ⟨_, rfl⟩
  have hP1 : PairAt W1 b1 24 ⟨#[49]⟩ ⟨#[50]⟩ := by rw [hW1, hb1]; exact PairAt.made _ _ _ _
  have hB1 : Below w.heap.size w W1 := by rw [hW1]; exact hB.alloc hB.size _
  rw [← hb1, ← hW1]
  clear hW1 hb1 hB
  go_wp2_with fail
  refine (aw_third W1 (hG.below hB1)).mono ?_
  rintro _ w2 ⟨rfl, hB⟩
  have hP2 := hP1.below hB
  have hB2 := hB1.trans (hB.mono hB1.size)
  clear hB hB1 hP1
  go_upto_region 3 with fail
  obtain ⟨b2, hb2⟩ : ∃ b, b = w2.heap.size := ⟨_, rfl⟩
  obtain ⟨W2, hW2⟩ : ∃ W, W = w2.alloc (.cells #[.string ⟨#[49]⟩, .string ⟨#[51]⟩] 24) := ⟨_, rfl⟩
  have hP3 : PairAt W2 b1 24 ⟨#[49]⟩ ⟨#[50]⟩ := by rw [hW2]; exact hP2.alloc _
  have hQ3 : PairAt W2 b2 24 ⟨#[49]⟩ ⟨#[51]⟩ := by rw [hW2, hb2]; exact PairAt.made _ _ _ _
  have hB3 : Below w.heap.size w W2 := by rw [hW2]; exact hB2.alloc hB2.size _
  rw [← hb2, ← hW2]
  clear hW2 hb2 hB2 hP2
  go_wp2_with fail
  refine (aw_power W2 (hG.below hB3)).mono ?_
  rintro _ w3 ⟨rfl, hB⟩
  have hP4 := hP3.below hB
  have hQ4 := hQ3.below hB
  have hB4 := hB3.trans (hB.mono hB3.size)
  clear hB hB3 hP3 hQ3
  go_upto_region 4 with fail
  obtain ⟨b3, hb3⟩ : ∃ b, b = w3.heap.size := ⟨_, rfl⟩
  obtain ⟨W3, hW3⟩ : ∃ W, W = w3.alloc (.cells #[.string ⟨#[45, 50, 55]⟩, .string ⟨#[56]⟩] 24) := ⟨_, rfl⟩
  have hP5 : PairAt W3 b1 24 ⟨#[49]⟩ ⟨#[50]⟩ := by rw [hW3]; exact hP4.alloc _
  have hQ5 : PairAt W3 b2 24 ⟨#[49]⟩ ⟨#[51]⟩ := by rw [hW3]; exact hQ4.alloc _
  have hR5 : PairAt W3 b3 24 ⟨#[45, 50, 55]⟩ ⟨#[56]⟩ := by rw [hW3, hb3]; exact PairAt.made _ _ _ _
  have hB5 : Below w.heap.size w W3 := by rw [hW3]; exact hB4.alloc hB4.size _
  rw [← hb3, ← hW3]
  clear hW3 hb3 hB4 hP4 hQ4
  obtain ⟨p0, p1, _, _⟩ := hP5.cells
  obtain ⟨q0, q1, _, _⟩ := hQ5.cells
  go_wp2_with fail
  refine (aw_add W3 (hG.below hB5)).mono ?_
  rintro _ w4 ⟨rfl, hB⟩
  have hR6 := hR5.below hB
  have hB6 := hB5.trans (hB.mono hB5.size)
  clear hB hB5 hP5 hQ5 hR5 p0 p1 q0 q1
  obtain ⟨r0, r1, _, _⟩ := hR6.cells
  have hg1 := frac_guard .eql (.tmp 34) (.tmp 35) ⟨#[53]⟩ ⟨#[54]⟩ ⟨#[53]⟩ ⟨#[54]⟩
  have he1 := frac_same ⟨#[53]⟩ ⟨#[54]⟩
  have hg2 := frac_guard .eql (.tmp 39) (.tmp 40) ⟨#[45, 50, 55]⟩ ⟨#[56]⟩ ⟨#[45, 50, 55]⟩ ⟨#[56]⟩
  have he2 := frac_same ⟨#[45, 50, 55]⟩ ⟨#[56]⟩
  go_wp2_with fail
  refine (aw_floor w4 (hG.below hB6)).mono ?_
  rintro _ w5 ⟨rfl, hB⟩
  have hB7 := hB6.trans (hB.mono hB6.size)
  clear hB hB6 hR6 r0 r1
  go_wp2_with fail
  refine (aw_print w5 (hG.below hB7)).mono ?_
  rintro _ w6 ⟨rfl, hB⟩
  have hB8 := hB7.trans (hB.mono hB7.size)
  clear hB hB7
  go_wp2_with fail
  refine (aw_check w6 (hG.below hB8)).mono ?_
  rintro _ w7 ⟨rfl, hB⟩
  have hB9 := hB8.trans (hB.mono hB8.size)
  clear hB hB8
  go_wp2_with fail
  go_ret
  exact ⟨rfl, hB9⟩

end Go.Proofs.YtldohkfomdcpoaaGreatDoor

/- What the walks of the laws of layer 2 carry along: the boxes of fractions. -/
namespace Go.Proofs.YtldohkfomdcpoaaGreatDoor
open Go.RowKit Fra

/-- fractions lie in these blocks -/
def Boxes (W : World) : List (Nat × ByteArray × ByteArray) → Prop
  | [] => True
  | x :: r => PairAt W x.1 24 x.2.1 x.2.2 ∧ Boxes W r
theorem Boxes.below {W W' : World} (hb : Below W.heap.size W W') : ∀ {L : List (Nat × ByteArray × ByteArray)}, Boxes W L → Boxes W' L
  | [], _ => trivial
  | _ :: _, h => ⟨h.1.below hb, Boxes.below hb h.2⟩
theorem Boxes.drewN {W : World} (q : Nat) : ∀ {L : List (Nat × ByteArray × ByteArray)}, Boxes W L → Boxes (W.drewN q) L
  | [], _ => trivial
  | _ :: _, h => ⟨h.1, Boxes.drewN q h.2⟩
structure StL (w W : World) (L : List (Nat × ByteArray × ByteArray)) : Prop where
  g : Ground W
  below : Below w.heap.size w W
  box : Boxes W L
  nd : L.Pairwise fun x y => x.1 ≠ y.1
  lo : ∀ x ∈ L, w.heap.size ≤ x.1
variable {w W W1 : World} {L : List (Nat × ByteArray × ByteArray)}
theorem Boxes.lt : ∀ {L : List (Nat × ByteArray × ByteArray)}, Boxes W L → ∀ x ∈ L, x.1 < W.heap.size
  | [], _, _, h => by simp at h
  | y :: r, hb, x, h => by
    rcases List.mem_cons.1 h with e | e
    · subst e; exact hb.1.lt
    · exact Boxes.lt hb.2 x e
theorem StL.next (h : StL w W L) (hb : Below W.heap.size W W1) : StL w W1 L := ⟨h.g.below hb, h.below.trans (hb.mono h.below.size), h.box.below hb, h.nd, h.lo⟩
theorem StL.drewN (h : StL w W L) (q : Nat) : StL w (W.drewN q) L := ⟨⟨h.g.tab, h.g.max⟩, below_drewN h.below q, h.box.drewN q, h.nd, h.lo⟩
theorem StL.drew (h : StL w W L) : StL w W.drew L := h.drewN 1
theorem StL.next1 (h : StL w W L) (hb : Below W.drew.heap.size W.drew W1) : StL w W1 L := h.drew.next hb
theorem StL.nextD {q : Nat} (h : StL w W L) (hb : Below (W.drewN q).heap.size (W.drewN q) W1) : StL w W1 L := (h.drewN q).next hb
theorem StL.other (h : StL w W L) (o : Obj) : StL w (W.alloc o) L := h.next ((Below.refl _ _).alloc (Nat.le_refl _) _)
theorem StL.alloc (h : StL w W L) (u v : ByteArray) : StL w (W.alloc (.cells #[.string u, .string v] 24)) ((W.heap.size, u, v) :: L) :=
  ⟨(h.other _).g, (h.other _).below, ⟨PairAt.made W _ u v, (h.other _).box⟩, List.pairwise_cons.2 ⟨fun x hx => by have := h.box.lt x hx; show W.heap.size ≠ x.1; omega, h.nd⟩, fun x hx => by
    rcases List.mem_cons.1 hx with e | e
    · subst e; exact h.below.size
    · exact h.lo x e⟩
theorem Boxes.setOther {a : Addr} {u : Value} : ∀ {L : List (Nat × ByteArray × ByteArray)}, (∀ x ∈ L, x.1 ≠ a.block) → Boxes W L → Boxes (W.setCell a u) L
  | [], _, _ => trivial
  | x :: r, hn, h => ⟨h.1.setOther (hn x (by simp)) u, Boxes.setOther (fun y hy => hn y (by simp [hy])) h.2⟩
theorem StL.fill (hG : Ground w) {b : Nat} {x y : ByteArray} (h : StL w W ((b, x, y) :: L)) (u v : ByteArray) : StL w ((W.setCell ⟨b, 0, none⟩ (.string u)).setCell ⟨b, 1, none⟩ (.string v)) ((b, u, v) :: L) := by
  have hlo : w.heap.size ≤ b := h.lo (b, x, y) (by simp)
  have hne := (List.pairwise_cons.1 h.nd).1
  have hb := below_put h.below hlo (.string u) (.string v)
  refine ⟨hG.below hb, hb, ⟨h.box.1.put u v, ?_⟩, List.pairwise_cons.2 ⟨hne, (List.pairwise_cons.1 h.nd).2⟩, fun z hz => ?_⟩
  · exact Boxes.setOther (fun z hz => (hne z hz).symm) (Boxes.setOther (fun z hz => (hne z hz).symm) h.box.2)
  · rcases List.mem_cons.1 hz with e | e
    · subst e; exact hlo
    · exact h.lo z (by simp [e])
theorem StL.fillA (hG : Ground w) {b : Nat} {x y : ByteArray} (h : StL w W ((b, x, y) :: L)) (u v a c : ByteArray) : StL w (((W.setCell ⟨b, 0, none⟩ (.string u)).setCell ⟨b, 1, none⟩ (.string v)).alloc (.cells #[.string a, .string c] 24)) ((W.heap.size, a, c) :: (b, u, v) :: L) := by
  have := (StL.fill hG h u v).alloc a c
  simpa [World.setCell] using this
theorem StL.swap {x y : Nat × ByteArray × ByteArray} (h : StL w W (x :: y :: L)) : StL w W (y :: x :: L) := by
  have h1 := List.pairwise_cons.1 h.nd
  have h2 := List.pairwise_cons.1 h1.2
  refine ⟨h.g, h.below, ⟨h.box.2.1, h.box.1, h.box.2.2⟩, List.pairwise_cons.2 ⟨fun z hz => ?_, List.pairwise_cons.2 ⟨fun z hz => h1.1 z (by simp [hz]), h2.2⟩⟩, fun z hz => h.lo z (by
    simp at hz ⊢
    rcases hz with e | e | e
    · exact .inr (.inl e)
    · exact .inl e
    · exact .inr (.inr e))⟩
  rcases List.mem_cons.1 hz with e | e
  · subst e; exact (h1.1 y (by simp)).symm
  · exact h2.1 z e
theorem StL.zero (hG : Ground w) : StL w w [] := ⟨hG, Below.refl _ _, trivial, .nil, fun _ h => by simp at h⟩
theorem StL.alloc2 (h : StL w W L) (u v a b : ByteArray) : StL w ((W.alloc (.cells #[.string u, .string v] 24)).alloc (.cells #[.string a, .string b] 24)) ((W.heap.size + 1, a, b) :: (W.heap.size, u, v) :: L) := by
  have := (h.alloc u v).alloc a b
  simpa using this
theorem StL.one (hG : Ground w) (a b : ByteArray) : StL w (w.alloc (.cells #[.string a, .string b] 24)) [(w.heap.size, a, b)] := (StL.zero hG).alloc a b
theorem StL.two (hG : Ground w) (a b c d : ByteArray) : StL w ((w.alloc (.cells #[.string a, .string b] 24)).alloc (.cells #[.string c, .string d] 24)) [(w.heap.size + 1, c, d), (w.heap.size, a, b)] := by
  have := (StL.one hG a b).alloc c d
  simpa using this
theorem StL.three (hG : Ground w) (a b c d e f : ByteArray) : StL w (((w.alloc (.cells #[.string a, .string b] 24)).alloc (.cells #[.string c, .string d] 24)).alloc (.cells #[.string e, .string f] 24)) [(w.heap.size + 1 + 1, e, f), (w.heap.size + 1, c, d), (w.heap.size, a, b)] := by
  have := (StL.two hG a b c d).alloc e f
  simpa using this
theorem addP_zero' (x : Int × Int) : addP x (0, 1) = low x := addP_zero
theorem frac_guards (x y : Operand) (a b c d : ByteArray) (W : World) : (eqGuard .eql 24 x y (.agg #[.string a, .string b]) (.agg #[.string c, .string d])).run Tryz.prog W = .ok () W := frac_guard _ _ _ _ _ _ _ _
theorem frac_guardn (x y : Operand) (a b c d : ByteArray) (W : World) : (eqGuard .neq 24 x y (.agg #[.string a, .string b]) (.agg #[.string c, .string d])).run Tryz.prog W = .ok () W := frac_guard _ _ _ _ _ _ _ _
theorem frac_nsame (a b : ByteArray) (W : World) : (binOp .neq 24 (.agg #[.string a, .string b]) (.agg #[.string a, .string b])).run Tryz.prog W = .ok (.bool false) W := frac_alike ⟨rfl, rfl⟩ W
theorem textP_size {k : Nat} {p : Int × Int} (h : CapP k p) : (textP p).size ≤ 2 * k + 5 := by
  have h1 := pS_size h.1
  have h2 := pS_size h.2
  unfold textP
  split
  · omega
  · rw [ByteArray.size_append, ByteArray.size_append]; show (pS p.1).size + 1 + (pS p.2).size ≤ _; omega

end Go.Proofs.YtldohkfomdcpoaaGreatDoor
