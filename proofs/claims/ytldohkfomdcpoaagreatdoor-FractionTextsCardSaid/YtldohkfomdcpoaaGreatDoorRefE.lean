/- The reference implementation of layer 1: Of: the walk. -/
import Derived.Test.YtldohkfomdcpoaaGreatDoorRefB
import Derived.Test.YtldohkfomdcpoaaGreatDoorAdd
import Derived.Laws.Runes
import Derived.Deep.CutBlock
import Derived.Deep.DeepCutAuto
namespace Go.Proofs.YtldohkfomdcpoaaGreatDoor
open Go.RowKit

theorem digs_step {M : Nat} (h : M ≠ 0) : Num.digs M = Num.digs (M / 10) ++ [UInt8.ofNat (48 + M % 10)] := by
  unfold Num.digs
  rw [if_neg h]
  by_cases h1 : M < 10
  · rw [Lib.decDigits, dif_pos h1, if_pos (by omega), Nat.mod_eq_of_lt h1]; rfl
  · rw [Lib.decDigits, dif_neg h1, if_neg (by omega)]

theorem enc_low (r : Nat) (h : r < 128) : Utf8.encode (r : Int) = ⟨#[UInt8.ofNat r]⟩ := by
  have v : Utf8.valid (r : Int) = true := by simp [Utf8.valid]; omega
  simp [Utf8.encode, v, h]
/-- the text of a digit -/
theorem enc_digit (x : Nat) (h : x < 10) : Utf8.encode (48 + (x : Int)) = ⟨#[UInt8.ofNat (48 + x)]⟩ := by
  rw [show (48 : Int) + (x : Int) = ((48 + x : Nat) : Int) by omega, enc_low _ (by omega)]
theorem one_append (c : UInt8) (d : List UInt8) : (ByteArray.mk #[c]) ++ (ByteArray.mk d.toArray) = ⟨(c :: d).toArray⟩ := by
  apply ByteArray.ext
  simp [ByteArray.data_append]

/-- the digits that are written so far: those of N are those of M, and these -/
def OfRel (N M : Nat) (t : List UInt8) : Prop := Num.digs M ++ t = Num.digs N ∧ t.length ≤ 20

theorem digs_len {N : Nat} (h : N ≤ 9223372036854775808) : (Num.digs N).length ≤ 20 := by
  have h1 := canon_length_le (z := (N : Int)) (k := 19) (by simp; omega)
  have h2 : Num.canon (N : Int) = Num.digs N := by unfold Num.canon; rw [if_neg (by omega)]; simp
  rw [h2] at h1; exact h1
theorem OfRel.start {N : Nat} : OfRel N N [] := ⟨by simp, by simp⟩
theorem OfRel.step {N M : Nat} {t : List UInt8} (hN : N ≤ 9223372036854775808) (h : OfRel N M t) (h0 : M ≠ 0) : OfRel N (M / 10) (UInt8.ofNat (48 + M % 10) :: t) := by
  have h1 := h.1
  rw [digs_step h0, List.append_assoc] at h1
  refine ⟨h1, ?_⟩
  have := congrArg List.length h1
  have h2 := digs_len hN
  simp at this
  simp; omega
theorem OfRel.done {N : Nat} {t : List UInt8} (h : OfRel N 0 t) : t = Num.digs N := by
  have := h.1
  rw [show Num.digs 0 = [] from rfl] at this
  simpa using this
theorem cS_of_pos {N : Nat} : (ByteArray.mk (Num.digs N).toArray) = cS (N : Int) := by
  unfold cS Num.canon; rw [if_neg (by omega)]; simp
theorem cS_of_neg {N : Nat} (h : N ≠ 0) : (ByteArray.mk #[45]) ++ (ByteArray.mk (Num.digs N).toArray) = cS (-(N : Int)) := by
  rw [minus_append]; unfold cS Num.canon; rw [if_pos (by omega)]; simp
theorem rem_neg (M : Nat) : (-(M : Int)).tmod 10 = -((M % 10 : Nat) : Int) := by
  rw [Int.neg_tmod, Int.tmod_eq_emod_of_nonneg (by omega)]; omega
theorem quo_neg (M : Nat) : (-(M : Int)).tdiv 10 = -((M / 10 : Nat) : Int) := by
  rw [Int.neg_tdiv, Int.tdiv_eq_ediv_of_nonneg (by omega)]; omega

set_option maxRecDepth 100000 in
set_option maxHeartbeats 1000000 in
theorem rOf_zero (w : World) : Calls Tryz.prog 72 #[.int .i64 0] w fun e w' => e = .returned (.string (cS 0)) ∧ w = w' := by
  go_enter Tryz.func72, Tryz.ntmps72
  go_wp2
  go_ret
  exact ⟨rfl, rfl⟩

set_option maxRecDepth 100000 in
set_option maxHeartbeats 1000000 in
theorem rOf_pos (N : Int) (w : World) (h0 : 0 < N) (h1 : N ≤ 9223372036854775807) :
    Calls Tryz.prog 72 #[.int .i64 N] w fun e w' => e = .returned (.string (cS N)) ∧ w = w' := by
  have hz : (N == 0) = false := by rw [beq_eq_false_iff_ne]; omega
  have hb0 : ¬ N < 0 := by omega
  go_enter Tryz.func72, Tryz.ntmps72
  go_wp2_with fail
  go_loop [3, 4] (fun tv mv => ∃ (m : Int) (t : List UInt8), 0 ≤ m ∧ m ≤ N ∧ mv = .int .i64 m ∧ tv = .string ⟨t.toArray⟩ ∧ OfRel N.toNat m.toNat t) (fun _ mv => (intOf mv).toNat)
  case atStart => exact ⟨N, [], by omega, Int.le_refl _, rfl, rfl, OfRel.start⟩
  case round =>
    obtain ⟨m, t, hm0, hM, rfl, rfl, hr⟩ := hrel
    have htl := hr.2
    have HR := Lib.hid hr
    clear hr
    by_cases hz : m = 0
    · subst hz
      have H := Lib.hid (show (ByteArray.mk t.toArray) = cS N by
        rw [show t = Num.digs N.toNat from HR.out.done, cS_of_pos]
        rw [show ((N.toNat : Nat) : Int) = N by omega])
      clear HR
      go_wp2_with fail
      go_ret
      exact ⟨by rw [← H.out]; rfl, rfl⟩
    · have hb2 : (m != 0) = true := by rw [bne_iff_ne]; omega
      have hs := HR.out.step (by omega) (by omega)
      obtain ⟨d, hd⟩ : ∃ d, d = m.toNat % 10 := ⟨_, rfl⟩
      rw [← hd] at hs
      have hE := enc_digit d (by omega)
      obtain ⟨c, hc⟩ : ∃ c, c = UInt8.ofNat (48 + d) := ⟨_, rfl⟩
      rw [← hc] at hs hE
      obtain ⟨z, hzz⟩ : ∃ z : Int, z = (d : Int) := ⟨_, rfl⟩
      rw [← hzz] at hE
      have hmod : m % 10 = z := by omega
      have hz0 : 0 ≤ z := by omega
      have hz9 : z ≤ 9 := by omega
      have hdiv : m.toNat / 10 = (m / 10).toNat := by omega
      rw [hdiv] at hs
      have HS := Lib.hid hs
      have hmp : 0 < m := by omega
      clear hz hs hd hc hzz hdiv
      have hmq : m.tmod 10 = z := by rw [Int.tmod_eq_emod_of_nonneg hm0]; exact hmod
      go_wp2_with fail
      go_round
      case rel => exact ⟨m / 10, _, by omega, by omega, by go_num, by rw [← one_append]; rfl, HS.out⟩
      case measure => simp [intOf]; omega

set_option maxRecDepth 100000 in
set_option maxHeartbeats 1000000 in
theorem rOf_neg (N : Int) (w : World) (h0 : 0 < N) (h1 : N ≤ 9223372036854775808) :
    Calls Tryz.prog 72 #[.int .i64 (-N)] w fun e w' => e = .returned (.string (cS (-N))) ∧ w = w' := by
  have hz : (-N == 0) = false := by rw [beq_eq_false_iff_ne]; omega
  have hb0 : -N < 0 := by omega
  go_enter Tryz.func72, Tryz.ntmps72
  go_wp2_with fail
  go_loop [3, 4] (fun tv mv => ∃ (m : Int) (t : List UInt8), 0 ≤ m ∧ m ≤ N ∧ mv = .int .i64 (-m) ∧ tv = .string ⟨t.toArray⟩ ∧ OfRel N.toNat m.toNat t) (fun _ mv => (-(intOf mv)).toNat)
  case atStart => exact ⟨N, [], by omega, Int.le_refl _, rfl, rfl, OfRel.start⟩
  case round =>
    obtain ⟨m, t, hm0, hM, rfl, rfl, hr⟩ := hrel
    have htl := hr.2
    have HR := Lib.hid hr
    clear hr
    by_cases hz : m = 0
    · subst hz
      have H := Lib.hid (show (ByteArray.mk #[45]) ++ (ByteArray.mk t.toArray) = cS (-N) by
        rw [show t = Num.digs N.toNat from HR.out.done, cS_of_neg (by omega)]
        rw [show ((N.toNat : Nat) : Int) = N by omega])
      clear HR
      go_wp2_with fail
      go_ret
      exact ⟨by rw [← H.out]; rfl, rfl⟩
    · have hb2 : ((-m) != 0) = true := by rw [bne_iff_ne]; omega
      have hs := HR.out.step (by omega) (by omega)
      obtain ⟨d, hd⟩ : ∃ d, d = m.toNat % 10 := ⟨_, rfl⟩
      rw [← hd] at hs
      have hE := enc_digit d (by omega)
      obtain ⟨c, hc⟩ : ∃ c, c = UInt8.ofNat (48 + d) := ⟨_, rfl⟩
      rw [← hc] at hs hE
      obtain ⟨z, hzz⟩ : ∃ z : Int, z = (d : Int) := ⟨_, rfl⟩
      rw [← hzz] at hE
      have hmod : m % 10 = z := by omega
      have hz0 : 0 ≤ z := by omega
      have hz9 : z ≤ 9 := by omega
      have hdiv : m.toNat / 10 = (m / 10).toNat := by omega
      rw [hdiv] at hs
      have HS := Lib.hid hs
      have hmp : 0 < m := by omega
      clear hz hs hd hc hzz hdiv
      have hmq : (-m).tmod 10 = -z := by rw [Int.neg_tmod, Int.tmod_eq_emod_of_nonneg hm0, hmod]
      have hmd : (-m).tdiv 10 = -(m / 10) := by rw [Int.neg_tdiv, Int.tdiv_eq_ediv_of_nonneg hm0]
      by_cases hzz : z = 0
      · subst hzz
        have hmq0 : (-m).tmod 10 = 0 := by rw [hmq]; rfl
        have hE0 : Utf8.encode 48 = ⟨#[c]⟩ := by rw [← hE]; rfl
        clear hmq hmod hE
        go_wp2_with fail
        go_round
        case rel => exact ⟨m / 10, _, by omega, by omega, by go_num, by rw [← one_append]; rfl, HS.out⟩
        case measure => simp [intOf]; omega
      · have hzn : -z < 0 := by omega
        go_wp2_with fail
        go_round
        case rel => exact ⟨m / 10, _, by omega, by omega, by go_num, by rw [← one_append]; rfl, HS.out⟩
        case measure => simp [intOf]; omega

/-- Of, at every int -/
theorem rOf_any (n : Int) (w : World) (h0 : -9223372036854775808 ≤ n) (h1 : n ≤ 9223372036854775807) :
    Calls Tryz.prog 72 #[.int .i64 n] w fun e w' => e = .returned (.string (cS n)) ∧ w = w' := by
  by_cases hz : n = 0
  · subst hz; exact rOf_zero w
  · by_cases hp : 0 < n
    · exact rOf_pos n w hp h1
    · obtain ⟨m, rfl⟩ : ∃ m, n = -m := ⟨-n, by omega⟩
      exact rOf_neg m w (by omega) (by omega)

end Go.Proofs.YtldohkfomdcpoaaGreatDoor
