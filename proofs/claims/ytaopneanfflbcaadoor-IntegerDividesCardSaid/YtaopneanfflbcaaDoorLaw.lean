/- the laws' own functions: compare, Great, great, awake. -/
import Derived.Test.YtaopneanfflbcaaDoorGcd
namespace Go.Proofs.YtaopneanfflbcaaDoor
open Go.RowKit

set_option maxRecDepth 100000 in
set_option maxHeartbeats 1000000 in
theorem lawCompare_any (m n : Int) (w : World) :
    Calls Tryd.prog 39 #[.int .i64 m, .int .i64 n] w fun e w' => e = .returned (.int .i64 (cmp3 m n)) ∧ w = w' := by
  go_enter Tryd.func39, Tryd.ntmps39
  by_cases h1 : m < n
  · have hc : cmp3 m n = -1 := by unfold cmp3; rw [if_pos h1]
    have HC := Lib.hid hc
    clear hc
    go_wp2_with fail
    go_ret
    exact ⟨by rw [HC.out]; rfl, rfl⟩
  · by_cases h2 : n < m
    · have hc : cmp3 m n = 1 := by unfold cmp3; rw [if_neg h1]; split <;> omega
      have HC := Lib.hid hc
      clear hc
      go_wp2_with fail
      go_ret
      exact ⟨by rw [HC.out]; rfl, rfl⟩
    · have hc : cmp3 m n = 0 := by unfold cmp3; rw [if_neg h1]; split <;> omega
      have HC := Lib.hid hc
      clear hc
      go_wp2_with fail
      go_ret
      exact ⟨by rw [HC.out]; rfl, rfl⟩

set_option maxRecDepth 100000 in
set_option maxHeartbeats 1000000 in
theorem refGreat_any (s : ByteArray) (w : World) :
    Calls Tryd.prog 40 #[.string s] w fun e w' => e = .returned (.bool (decide (60 < s.size))) ∧ w = w' := by
  by_cases h : (60 : Int) < s.size
  · have hd : decide (60 < s.size) = true := by simp; omega
    have HD := Lib.hid hd
    clear hd
    go_enter Tryd.func40, Tryd.ntmps40
    go_wp2_with fail
    go_ret
    exact ⟨by rw [HD.out]; simp, rfl⟩
  · have hd : decide (60 < s.size) = false := by simp; omega
    have HD := Lib.hid hd
    clear hd
    go_enter Tryd.func40, Tryd.ntmps40
    go_wp2_with fail
    go_ret
    exact ⟨by rw [HD.out]; simp, rfl⟩

/-- some string is longer than 60 bytes -/
def long (ss : List ByteArray) : Bool := ss.any fun s => decide (60 < s.size)

set_option maxRecDepth 100000 in
set_option maxHeartbeats 1000000 in
theorem great_any (w : World) (b n : Nat) (ss : List ByteArray) (hn : ss.length = n) (hlim : n ≤ 1000) (hc : ∀ i, i < n → w.cell? ⟨b, i, none⟩ = some (.string (ss.getD i ⟨#[]⟩))) :
    Calls Tryd.prog 13 #[.slice (some ⟨b, 0, none⟩) n n] w fun e w' => e = .returned (.bool (long ss)) ∧ w = w' := by
  have HN := Lib.hid hn
  clear hn
  go_enter Tryd.func13, Tryd.ntmps13
  go_wp2_with fail
  go_loopw [7] (fun iv wr => ∃ k : Nat, k ≤ n ∧ iv = .int .i64 (k : Int) ∧ long (ss.take k) = false ∧ wr = w) (fun iv _ => n - (intOf iv).toNat)
  case atStart => exact ⟨0, Nat.zero_le _, rfl, rfl, rfl⟩
  case round =>
    obtain ⟨k, hk, rfl, hl, rfl⟩ := hrel
    have HL := Lib.hid hl
    clear hl
    by_cases hlt : k < n
    · obtain ⟨sk, hsk⟩ : ∃ sk, sk = ss.getD k ⟨#[]⟩ := ⟨_, rfl⟩
      have hck : wr.cell? ⟨b, k, none⟩ = some (.string sk) := by rw [hsk]; exact hc k hlt
      have htk : ss.take (k + 1) = ss.take k ++ [sk] := by
        rw [List.take_succ_eq_append_getElem (by rw [HN.out]; exact hlt), hsk]
        simp [show k < ss.length by rw [HN.out]; exact hlt]
      have HC := Lib.hid hc
      have HT := Lib.hid htk
      clear hc hsk htk
      go_wp2_with fail
      refine (refGreat_any sk wr).mono ?_
      rintro e w' ⟨rfl, rfl⟩
      by_cases hs : 60 < sk.size
      · have hd : decide (60 < sk.size) = true := by simpa using hs
        rw [hd]
        have hL : long ss = true := by
          unfold long
          rw [List.any_eq_true]
          refine ⟨sk, ?_, hd⟩
          have : sk ∈ ss.take (k + 1) := by rw [HT.out]; simp
          exact List.mem_of_mem_take this
        have HLL := Lib.hid hL
        clear hd hs hL
        go_wp2_with fail
        go_ret
        exact ⟨by rw [HLL.out]; rfl, rfl⟩
      · have hd : decide (60 < sk.size) = false := by simpa using hs
        rw [hd]
        have hL : long (ss.take (k + 1)) = false := by
          have := HL.out
          unfold long at *
          rw [HT.out, List.any_append, this]
          simp; omega
        have HLL := Lib.hid hL
        clear hd hs hL
        go_wp2_with fail
        go_roundw
        case rel => exact ⟨k + 1, by omega, by simp, HLL.out, trivial⟩
        case measure => simp [intOf]; omega
    · obtain rfl : k = n := by omega
      have hL : long ss = false := by
        have := HL.out
        rwa [List.take_of_length_le (by rw [HN.out]; exact Nat.le_refl _)] at this
      have HLL := Lib.hid hL
      clear hL hc
      go_wp2_with fail
      go_ret
      exact ⟨by rw [HLL.out]; rfl, rfl⟩

theorem great_cells (w : World) (ss : List ByteArray) : ∀ i, i < ss.length → (w.alloc (.cells (ss.map Value.string).toArray 22)).cell? ⟨w.heap.size, i, none⟩ = some (.string (ss.getD i ⟨#[]⟩)) := by
  intro i hi
  rw [cell_of_row _ _ _ _ _ _ (heap_alloc_new _ _)]
  simp [hi]
theorem long_true {ss : List ByteArray} {s : ByteArray} (h : s ∈ ss) (hs : 60 < s.size) : long ss = true := by
  unfold long; rw [List.any_eq_true]; exact ⟨s, h, by simpa using hs⟩
theorem long_false {ss : List ByteArray} (h : ∀ s ∈ ss, s.size ≤ 60) : long ss = false := by
  unfold long; rw [List.any_eq_false]; intro s hs; have := h s hs; simp; omega

set_option maxHeartbeats 1000000 in
set_option maxRecDepth 100000 in
theorem awake_any (w : World) (hG : Ground w) :
    Calls Tryd.prog 14 #[] w fun e w' => e = .returned (.bool true) ∧ Below w.heap.size w w' := by
  go_enter Tryd.func14, Tryd.ntmps14
  go_wp2_with fail
  refine (div_any ⟨#[45, 55]⟩ ⟨#[50]⟩ w hG (by decide) (by decide) (by decide +kernel)).mono ?_
  rintro e w1 ⟨rfl, hB1⟩
  rw [show cS (Int.fdiv (vS ⟨#[45, 55]⟩) (vS ⟨#[50]⟩)) = ⟨#[45, 52]⟩ by decide +kernel, show cS (Int.fmod (vS ⟨#[45, 55]⟩) (vS ⟨#[50]⟩)) = ⟨#[49]⟩ by decide +kernel]
  go_wp2_with fail
  refine (div_any ⟨#[55]⟩ ⟨#[45, 50]⟩ w1 (hG.below hB1) (by decide) (by decide) (by decide +kernel)).mono ?_
  rintro e w2 ⟨rfl, hB2⟩
  rw [show cS (Int.fdiv (vS ⟨#[55]⟩) (vS ⟨#[45, 50]⟩)) = ⟨#[45, 52]⟩ by decide +kernel, show cS (Int.fmod (vS ⟨#[55]⟩) (vS ⟨#[45, 50]⟩)) = ⟨#[45, 49]⟩ by decide +kernel]
  have hB12 := hB1.trans (hB2.mono hB1.size)
  clear hB1 hB2
  go_wp2_with fail
  refine (power_any ⟨#[50]⟩ 64 w2 (hG.below hB12) (by decide) (by decide)).mono ?_
  rintro e w3 ⟨rfl, hB3⟩
  rw [show cS (vS ⟨#[50]⟩ ^ 64) = ⟨#[49, 56, 52, 52, 54, 55, 52, 52, 48, 55, 51, 55, 48, 57, 53, 53, 49, 54, 49, 54]⟩ by decide +kernel]
  have hB13 := hB12.trans (hB3.mono hB12.size)
  clear hB12 hB3
  go_wp2_with fail
  refine (small_fits ⟨#[48, 48, 55]⟩ w3 (by decide) (by decide +kernel)).mono ?_
  rintro e w4 ⟨rfl, hB4⟩
  rw [show vS ⟨#[48, 48, 55]⟩ = 7 by decide +kernel]
  have hB14 := hB13.trans (hB4.mono hB13.size)
  clear hB13 hB4
  go_wp2_with fail
  refine (gcd_any ⟨#[45, 49, 50]⟩ ⟨#[49, 56]⟩ w4 (hG.below hB14) (by decide) (by decide)).mono ?_
  rintro e w5 ⟨rfl, hB5⟩
  rw [show cS (Int.gcd (vS ⟨#[45, 49, 50]⟩) (vS ⟨#[49, 56]⟩)) = ⟨#[54]⟩ by decide +kernel]
  have hB15 := hB14.trans (hB5.mono hB14.size)
  clear hB14 hB5
  go_wp2_with fail
  refine (canonical_any ⟨#[49, 120]⟩ w5 (by decide)).mono ?_
  rintro e w6 ⟨rfl, rfl⟩
  rw [show cS (vS ⟨#[49, 120]⟩) = ⟨#[]⟩ by decide +kernel]
  go_wp2_with fail
  refine (print_any ⟨#[45, 48]⟩ _ (by decide)).mono ?_
  rintro e w7 ⟨rfl, rfl⟩
  rw [show pS (vS ⟨#[45, 48]⟩) = ⟨#[48]⟩ by decide +kernel]
  go_wp2_with fail
  go_ret
  exact ⟨rfl, hB15⟩

theorem cS_int {z : Int} (h0 : -18446744073709551616 ≤ z) (h1 : z ≤ 18446744073709551616) : (cS z).size ≤ 21 := cS_size (k := 20) (by omega)
theorem cS_can (z : Int) : isCan (cS z) = true := by unfold isCan; rw [vS_cS]; simp
theorem chk_cS (z : Int) : chk (cS z) = 0 := by unfold chk; rw [cS_can]; rfl
theorem vS_one : vS ⟨#[49]⟩ = 1 := by decide +kernel
theorem vS_mone : vS ⟨#[45, 49]⟩ = -1 := by decide +kernel
theorem vS_nil : vS ⟨#[]⟩ = 0 := by decide +kernel
theorem cS_one : cS 1 = ⟨#[49]⟩ := by decide +kernel
theorem cS_zero : cS 0 = ⟨#[]⟩ := by decide +kernel
theorem vS_pS (z : Int) : vS (pS z) = z := by
  by_cases h : z = 0
  · rw [h, pS_zero]; decide +kernel
  · rw [pS_of_ne h, vS_cS]
theorem isText_pS (z : Int) : isText (pS z) = true := by unfold isText; rw [vS_pS]; simp

/-! ### The contracts, by values -/
/-- a number of at most k digits -/
def Cap (k : Nat) (z : Int) : Prop := z.natAbs < 10 ^ k
theorem Cap.add {k : Nat} {x y : Int} (hx : Cap k x) (hy : Cap k y) : Cap (k + 1) (x + y) := by
  unfold Cap at *; rw [Nat.pow_succ]; omega
theorem Cap.sub {k : Nat} {x y : Int} (hx : Cap k x) (hy : Cap k y) : Cap (k + 1) (x - y) := by
  unfold Cap at *; rw [Nat.pow_succ]; omega
theorem Cap.neg {k : Nat} {x : Int} (hx : Cap k x) : Cap k (-x) := by unfold Cap at *; omega
theorem Cap.mono {k l : Nat} {x : Int} (hx : Cap k x) (h : k ≤ l) : Cap l x := Nat.lt_of_lt_of_le hx (Nat.pow_le_pow_right (by decide) h)
theorem Cap.mul {k l : Nat} {x y : Int} (hx : Cap k x) (hy : Cap l y) : Cap (k + l) (x * y) := by
  unfold Cap at *
  rw [Int.natAbs_mul, Nat.pow_add]
  exact Nat.mul_lt_mul'' hx hy
theorem Cap.size {k : Nat} {z : Int} (h : Cap k z) (hk : k ≤ 4294967294) : (cS z).size ≤ 4294967295 := by have := cS_size h; omega
theorem Cap.of {s : ByteArray} {k : Nat} {x : Int} (h : s.size ≤ k) (hx : vS s = x) : Cap k x := by
  have := vS_lt s
  rw [hx] at this
  exact Cap.mono this h
theorem le_big {n : Nat} (h : n ≤ 4294967295) : n ≤ 4294967296 := Nat.le_succ_of_le h

theorem add_v {a b : ByteArray} {x y z : Int} (w : World) (hG : Ground w) (ha : a.size ≤ 4294967295) (hb : b.size ≤ 4294967295) (hx : vS a = x) (hy : vS b = y) (hz : x + y = z) :
    Calls Tryd.prog 35 #[.string a, .string b] w (StrPost w z) := by rw [← hz, ← hx, ← hy]; exact add_any a b w hG (le_big ha) (le_big hb)
theorem sub_v {a b : ByteArray} {x y z : Int} (w : World) (hG : Ground w) (ha : a.size ≤ 4294967295) (hb : b.size ≤ 4294967295) (hx : vS a = x) (hy : vS b = y) (hz : x - y = z) :
    Calls Tryd.prog 37 #[.string a, .string b] w (StrPost w z) := by rw [← hz, ← hx, ← hy]; exact sub_any a b w hG ha hb
theorem mul_v {a b : ByteArray} {x y z : Int} (w : World) (hG : Ground w) (ha : a.size ≤ 4294967295) (hb : b.size ≤ 4294967295) (hx : vS a = x) (hy : vS b = y) (hz : x * y = z) :
    Calls Tryd.prog 36 #[.string a, .string b] w (StrPost w z) := by rw [← hz, ← hx, ← hy]; exact mul_any a b w hG (le_big ha) (le_big hb)
theorem gcd_v {a b : ByteArray} {x y z : Int} (w : World) (hG : Ground w) (ha : a.size ≤ 4294967295) (hb : b.size ≤ 4294967295) (hx : vS a = x) (hy : vS b = y) (hz : (Int.gcd x y : Int) = z) :
    Calls Tryd.prog 29 #[.string a, .string b] w (StrPost w z) := by rw [← hz, ← hx, ← hy]; exact gcd_any a b w hG (le_big ha) (le_big hb)
theorem compare_v {a b : ByteArray} {x y z : Int} (w : World) (ha : a.size ≤ 4294967295) (hb : b.size ≤ 4294967295) (hx : vS a = x) (hy : vS b = y) (hz : cmp3 x y = z) :
    Calls Tryd.prog 38 #[.string a, .string b] w fun e w' => e = .returned (.int .i64 z) ∧ Below w.heap.size w w' := by rw [← hz, ← hx, ← hy]; exact compare_any a b w (le_big ha) (le_big hb)
theorem canonical_v {a : ByteArray} {x z : Int} (w : World) (ha : a.size ≤ 4294967295) (hx : vS a = x) (hz : x = z) :
    Calls Tryd.prog 19 #[.string a] w fun e w' => e = .returned (.string (cS z)) ∧ w = w' := by rw [← hz, ← hx]; exact canonical_any a w (le_big ha)
theorem neg_v {a : ByteArray} {x z : Int} (w : World) (ha : a.size ≤ 4294967295) (hx : vS a = x) (hz : -x = z) :
    Calls Tryd.prog 23 #[.string a] w fun e w' => e = .returned (.string (cS z)) ∧ w = w' := by rw [← hz, ← hx]; exact neg_any a w (le_big ha)
theorem check_v {z : Int} (w : World) (ha : (cS z).size ≤ 4294967295) :
    Calls Tryd.prog 17 #[.string (cS z)] w fun e w' => e = .returned (.int .i64 0) ∧ w = w' := by rw [← chk_cS z]; exact check_any (cS z) w (le_big ha)
theorem div_v {a b : ByteArray} {x y q r : Int} (w : World) (hG : Ground w) (ha : a.size ≤ 4294967295) (hb : b.size ≤ 4294967295) (hx : vS a = x) (hy : vS b = y) (h0 : y ≠ 0) (hq : Int.fdiv x y = q) (hr : Int.fmod x y = r) :
    Calls Tryd.prog 27 #[.string a, .string b] w fun e w' => e = .returned (.tuple #[.string (cS q), .string (cS r), .int .i64 0]) ∧ Below w.heap.size w w' := by
  rw [← hq, ← hr, ← hx, ← hy]; exact div_any a b w hG (le_big ha) (le_big hb) (by rw [hy]; exact h0)

end Go.Proofs.YtaopneanfflbcaaDoor
