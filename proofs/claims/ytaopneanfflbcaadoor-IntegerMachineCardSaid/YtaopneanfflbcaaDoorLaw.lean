/- the laws' own functions: compare, Great, great, awake. -/
import Derived.Test.YtaopneanfflbcaaDoorGcd
namespace Go.Proofs.YtaopneanfflbcaaDoor
open Go.RowKit

set_option maxRecDepth 100000 in
set_option maxHeartbeats 1000000 in
theorem lawCompare_any (m n : Int) (w : World) :
    Calls Tryd.prog 39 #[.int .i64 m, .int .i64 n] w fun e w' => e = .returned (.int .i64 (cmp3 m n)) ∧ w = w' := by
  go_enter Tryd.func39, Tryd.ntmps39
  by_cases h1 : m < n
  · have hc : cmp3 m n = -1 := by unfold cmp3; rw [if_pos h1]
    have HC := Lib.hid hc
    clear hc
    go_wp2_with fail
    go_ret
    exact ⟨by rw [HC.out]; rfl, rfl⟩
  · by_cases h2 : n < m
    · have hc : cmp3 m n = 1 := by unfold cmp3; rw [if_neg h1]; split <;> omega
      have HC := Lib.hid hc
      clear hc
      go_wp2_with fail
      go_ret
      exact ⟨by rw [HC.out]; rfl, rfl⟩
    · have hc : cmp3 m n = 0 := by unfold cmp3; rw [if_neg h1]; split <;> omega
      have HC := Lib.hid hc
      clear hc
      go_wp2_with fail
      go_ret
      exact ⟨by rw [HC.out]; rfl, rfl⟩

set_option maxRecDepth 100000 in
set_option maxHeartbeats 1000000 in
theorem refGreat_any (s : ByteArray) (w : World) :
    Calls Tryd.prog 40 #[.string s] w fun e w' => e = .returned (.bool (decide (60 < s.size))) ∧ w = w' := by
  by_cases h : (60 : Int) < s.size
  · have hd : decide (60 < s.size) = true := by simp; omega
    have HD := Lib.hid hd
    clear hd
    go_enter Tryd.func40, Tryd.ntmps40
    go_wp2_with fail
    go_ret
    exact ⟨by rw [HD.out]; simp, rfl⟩
  · have hd : decide (60 < s.size) = false := by simp; omega
    have HD := Lib.hid hd
    clear hd
    go_enter Tryd.func40, Tryd.ntmps40
    go_wp2_with fail
    go_ret
    exact ⟨by rw [HD.out]; simp, rfl⟩

/-- some string is longer than 60 bytes -/
def long (ss : List ByteArray) : Bool := ss.any fun s => decide (60 < s.size)

set_option maxRecDepth 100000 in
set_option maxHeartbeats 1000000 in
theorem great_any (w : World) (b n : Nat) (ss : List ByteArray) (hn : ss.length = n) (hlim : n ≤ 1000) (hc : ∀ i, i < n → w.cell? ⟨b, i, none⟩ = some (.string (ss.getD i ⟨#[]⟩))) :
    Calls Tryd.prog 13 #[.slice (some ⟨b, 0, none⟩) n n] w fun e w' => e = .returned (.bool (long ss)) ∧ w = w' := by
  have HN := Lib.hid hn
  clear hn
  go_enter Tryd.func13, Tryd.ntmps13
  go_wp2_with fail
  go_loopw [7] (fun iv wr => ∃ k : Nat, k ≤ n ∧ iv = .int .i64 (k : Int) ∧ long (ss.take k) = false ∧ wr = w) (fun iv _ => n - (intOf iv).toNat)
  case atStart => exact ⟨0, Nat.zero_le _, rfl, rfl, rfl⟩
  case round =>
    obtain ⟨k, hk, rfl, hl, rfl⟩ := hrel
    have HL := Lib.hid hl
    clear hl
    by_cases hlt : k < n
    · obtain ⟨sk, hsk⟩ : ∃ sk, sk = ss.getD k ⟨#[]⟩ := ⟨_, rfl⟩
      have hck : wr.cell? ⟨b, k, none⟩ = some (.string sk) := by rw [hsk]; exact hc k hlt
      have htk : ss.take (k + 1) = ss.take k ++ [sk] := by
        rw [List.take_succ_eq_append_getElem (by rw [HN.out]; exact hlt), hsk]
        simp [show k < ss.length by rw [HN.out]; exact hlt]
      have HC := Lib.hid hc
      have HT := Lib.hid htk
      clear hc hsk htk
      go_wp2_with fail
      refine (refGreat_any sk wr).mono ?_
      rintro e w' ⟨rfl, rfl⟩
      by_cases hs : 60 < sk.size
      · have hd : decide (60 < sk.size) = true := by simpa using hs
        rw [hd]
        have hL : long ss = true := by
          unfold long
          rw [List.any_eq_true]
          refine ⟨sk, ?_, hd⟩
          have : sk ∈ ss.take (k + 1) := by rw [HT.out]; simp
          exact List.mem_of_mem_take this
        have HLL := Lib.hid hL
        clear hd hs hL
        go_wp2_with fail
        go_ret
        exact ⟨by rw [HLL.out]; rfl, rfl⟩
      · have hd : decide (60 < sk.size) = false := by simpa using hs
        rw [hd]
        have hL : long (ss.take (k + 1)) = false := by
          have := HL.out
          unfold long at *
          rw [HT.out, List.any_append, this]
          simp; omega
        have HLL := Lib.hid hL
        clear hd hs hL
        go_wp2_with fail
        go_roundw
        case rel => exact ⟨k + 1, by omega, by simp, HLL.out, trivial⟩
        case measure => simp [intOf]; omega
    · obtain rfl : k = n := by omega
      have hL : long ss = false := by
        have := HL.out
        rwa [List.take_of_length_le (by rw [HN.out]; exact Nat.le_refl _)] at this
      have HLL := Lib.hid hL
      clear hL hc
      go_wp2_with fail
      go_ret
      exact ⟨by rw [HLL.out]; rfl, rfl⟩

set_option maxHeartbeats 1000000 in
set_option maxRecDepth 100000 in
theorem awake_any (w : World) (hG : Ground w) :
    Calls Tryd.prog 14 #[] w fun e w' => e = .returned (.bool true) ∧ Below w.heap.size w w' := by
  go_enter Tryd.func14, Tryd.ntmps14
  go_wp2_with fail
  refine (div_any ⟨#[45, 55]⟩ ⟨#[50]⟩ w hG (by decide) (by decide) (by decide +kernel)).mono ?_
  rintro e w1 ⟨rfl, hB1⟩
  rw [show cS (Int.fdiv (vS ⟨#[45, 55]⟩) (vS ⟨#[50]⟩)) = ⟨#[45, 52]⟩ by decide +kernel, show cS (Int.fmod (vS ⟨#[45, 55]⟩) (vS ⟨#[50]⟩)) = ⟨#[49]⟩ by decide +kernel]
  go_wp2_with fail
  refine (div_any ⟨#[55]⟩ ⟨#[45, 50]⟩ w1 (hG.below hB1) (by decide) (by decide) (by decide +kernel)).mono ?_
  rintro e w2 ⟨rfl, hB2⟩
  rw [show cS (Int.fdiv (vS ⟨#[55]⟩) (vS ⟨#[45, 50]⟩)) = ⟨#[45, 52]⟩ by decide +kernel, show cS (Int.fmod (vS ⟨#[55]⟩) (vS ⟨#[45, 50]⟩)) = ⟨#[45, 49]⟩ by decide +kernel]
  have hB12 := hB1.trans (hB2.mono hB1.size)
  clear hB1 hB2
  go_wp2_with fail
  refine (power_any ⟨#[50]⟩ 64 w2 (hG.below hB12) (by decide) (by decide)).mono ?_
  rintro e w3 ⟨rfl, hB3⟩
  rw [show cS (vS ⟨#[50]⟩ ^ 64) = ⟨#[49, 56, 52, 52, 54, 55, 52, 52, 48, 55, 51, 55, 48, 57, 53, 53, 49, 54, 49, 54]⟩ by decide +kernel]
  have hB13 := hB12.trans (hB3.mono hB12.size)
  clear hB12 hB3
  go_wp2_with fail
  refine (small_fits ⟨#[48, 48, 55]⟩ w3 (by decide) (by decide +kernel)).mono ?_
  rintro e w4 ⟨rfl, hB4⟩
  rw [show vS ⟨#[48, 48, 55]⟩ = 7 by decide +kernel]
  have hB14 := hB13.trans (hB4.mono hB13.size)
  clear hB13 hB4
  go_wp2_with fail
  refine (gcd_any ⟨#[45, 49, 50]⟩ ⟨#[49, 56]⟩ w4 (hG.below hB14) (by decide) (by decide)).mono ?_
  rintro e w5 ⟨rfl, hB5⟩
  rw [show cS (Int.gcd (vS ⟨#[45, 49, 50]⟩) (vS ⟨#[49, 56]⟩)) = ⟨#[54]⟩ by decide +kernel]
  have hB15 := hB14.trans (hB5.mono hB14.size)
  clear hB14 hB5
  go_wp2_with fail
  refine (canonical_any ⟨#[49, 120]⟩ w5 (by decide)).mono ?_
  rintro e w6 ⟨rfl, rfl⟩
  rw [show cS (vS ⟨#[49, 120]⟩) = ⟨#[]⟩ by decide +kernel]
  go_wp2_with fail
  refine (print_any ⟨#[45, 48]⟩ _ (by decide)).mono ?_
  rintro e w7 ⟨rfl, rfl⟩
  rw [show pS (vS ⟨#[45, 48]⟩) = ⟨#[48]⟩ by decide +kernel]
  go_wp2_with fail
  go_ret
  exact ⟨rfl, hB15⟩

end Go.Proofs.YtaopneanfflbcaaDoor
