/- integer.Power: the walk by contracts. -/
import Derived.Test.YtldohkfomdcpoaaGreatDoorDiv
namespace Go.Proofs.YtldohkfomdcpoaaGreatDoor
open Go.RowKit

theorem power_range (a : ByteArray) (n : Int) (w : World) (h : n < 0 ∨ 400 < n) :
    Calls Tryz.prog 57 #[.string a, .int .i64 n] w fun e w' => e = .returned (.tuple #[.string ⟨#[]⟩, .int .i64 2]) ∧ w = w' := by
  by_cases h0 : n < 0
  · go_enter Tryz.func57, Tryz.ntmps57
    go_wp2
    go_ret2
    exact ⟨rfl, rfl⟩
  · have h1 : 400 < n := by omega
    go_enter Tryz.func57, Tryz.ntmps57
    go_wp2
    go_ret2
    exact ⟨rfl, rfl⟩

/-- what Power leaves -/
def PowPost (w : World) (z : Int) (e : Ending) (w' : World) : Prop := e = .returned (.tuple #[.string (cS z), .int .i64 0]) ∧ Below w.heap.size w w'

theorem odd_fin : ∀ m : Fin 401, (bits .and .i64 ((m.val : Nat) : Int) 1 == 1) = decide (m.val % 2 = 1) := by decide +kernel
theorem odd_bit (n j : Nat) (hn : n ≤ 400) : (bits .and .i64 ((n : Int) / 2 ^ j) 1 == 1) = decide (n / 2 ^ j % 2 = 1) := by
  have h1 : n / 2 ^ j ≤ 400 := Nat.le_trans (Nat.div_le_self _ _) hn
  have := odd_fin ⟨n / 2 ^ j, by omega⟩
  have e : ((n : Int) / 2 ^ j) = ((n / 2 ^ j : Nat) : Int) := by rw [Int.natCast_ediv, Int.natCast_pow]; rfl
  rw [e]; exact this
theorem half_step (n j : Nat) : n / 2 ^ j = 2 * (n / 2 ^ (j + 1)) + n / 2 ^ j % 2 := by
  rw [Nat.pow_succ, ← Nat.div_div_eq_div_mul]; omega
theorem pow_even (x : Int) {m k : Nat} (h : m = 2 * k) : x ^ k * x ^ k = x ^ m := by rw [h, Nat.two_mul, Int.pow_add]
theorem pow_odd (x : Int) {m k : Nat} (h : m = 2 * k + 1) : x ^ k * x ^ k * x = x ^ m := by rw [h, Int.pow_succ, Nat.two_mul, Int.pow_add]
theorem natAbs_pow (x : Int) (m : Nat) : (x ^ m).natAbs = x.natAbs ^ m := Int.natAbs_pow x m

theorem pow_size (a : ByteArray) (ha : a.size ≤ 1000000) (m : Nat) (hm : m ≤ 400) : (cS (vS a ^ m)).size ≤ 400000002 := by
  have h1 := vS_lt a
  have h2 : (vS a ^ m).natAbs < 10 ^ (a.size * m + 1) := by
    rw [natAbs_pow]
    have h3 := Nat.pow_le_pow_left (Nat.le_of_lt h1) m
    rw [← Nat.pow_mul] at h3
    have h4 : 10 ^ (a.size * m) < 10 ^ (a.size * m + 1) := Nat.pow_lt_pow_right (by decide) (by omega)
    omega
  have h5 := cS_size h2
  have h6 : a.size * m ≤ 1000000 * 400 := Nat.mul_le_mul ha hm
  omega

theorem lt_bitLen (n : Nat) (hn : n ≤ 400) : n / 2 ^ Lib.bitLen n = 0 := by
  apply Nat.div_eq_of_lt
  by_cases h0 : n = 0
  · subst h0; decide
  · exact (Lib.bitLenAux_bounds 64 n (by omega) h0).2.2

set_option maxRecDepth 100000 in
set_option maxHeartbeats 2000000 in
theorem power_any (a : ByteArray) (n : Nat) (w : World) (hG : Ground w) (ha : a.size ≤ 1000000) (hn : n ≤ 400) :
    Calls Tryz.prog 57 #[.string a, .int .i64 n] w (PowPost w (vS a ^ n)) := by
  obtain ⟨L, hL⟩ : ∃ L, L = Lib.bitLen n := ⟨_, rfl⟩
  have hL9 : L ≤ 9 := by rw [hL]; exact Lib.bitLen_le n 9 (by decide) (by omega)
  have hz : n / 2 ^ L = 0 := by rw [hL]; exact lt_bitLen n hn
  have HZ := Lib.hid hz
  clear hz
  go_enter Tryz.func57, Tryz.ntmps57
  go_wp2_with fail
  refine (of_any 1 w hG (by decide) (by decide)).mono ?_
  rintro e w1 ⟨rfl, hB1⟩
  go_wp2_with fail
  refine (Tryz.bits_Len (n : Int) _ (by omega) (by omega)).mono ?_
  rintro e w2 ⟨rfl, rfl⟩
  rw [Int.toNat_natCast, ← hL]
  clear hL
  have HB1 := Lib.hid hB1
  clear hB1
  go_wp2_with fail
  go_loopw [6, 7] (fun pv iv wr => ∃ k : Nat, k ≤ L ∧ iv = .int .i64 ((k : Int) - 1) ∧ pv = .string (cS (vS a ^ (n / 2 ^ k))) ∧ Below w.heap.size w wr) (fun _ iv _ => (intOf iv + 1).toNat)
  case atStart => exact ⟨L, Nat.le_refl _, rfl, by rw [HZ.out, Int.pow_zero], HB1.out⟩
  case round =>
    clear HB1
    obtain ⟨k, hk, rfl, rfl, hB⟩ := hrel
    have HB := Lib.hid hB
    clear hB
    by_cases h0 : k = 0
    · subst h0
      go_wp2_with fail
      go_ret2
      exact ⟨by simp, HB.out⟩
    · obtain ⟨j, rfl⟩ : ∃ j, k = j + 1 := ⟨k - 1, by omega⟩
      rw [show ((j + 1 : Nat) : Int) - 1 = (j : Int) by omega]
      have hd := Nat.div_le_self n (2 ^ (j + 1))
      have hps := pow_size a ha (n / 2 ^ (j + 1)) (by omega)
      obtain ⟨m, hm⟩ : ∃ m, m = n / 2 ^ (j + 1) := ⟨_, rfl⟩
      have hh := half_step n j
      have hbit := odd_bit n j hn
      rw [← hm] at hh hps hd ⊢
      have hps2 := pow_size a ha (m + m) (by have := Nat.div_le_self n (2 ^ j); omega)
      clear hm
      have HPS := Lib.hid hps
      clear hps
      by_cases hodd : n / 2 ^ j % 2 = 1
      · rw [decide_eq_true hodd] at hbit
        have hp := pow_odd (vS a) (m := n / 2 ^ j) (k := m) (by omega)
        have HP := Lib.hid hp
        have HPS2 := Lib.hid hps2
        clear hp hh hodd hd hps2
        go_wp2_with fail
        refine (mul_any _ _ wr (hG.below HB.out) (Nat.le_trans HPS.out (by decide)) (Nat.le_trans HPS.out (by decide))).mono ?_
        rintro e w3 ⟨rfl, hB3⟩
        rw [vS_cS]
        have hB3' := HB.out.trans (hB3.mono HB.out.size)
        go_wp2_with fail
        refine (mul_any _ a w3 (hG.below hB3') (by rw [← Int.pow_add]; exact Nat.le_trans HPS2.out (by decide)) (by omega)).mono ?_
        rintro e w4 ⟨rfl, hB4⟩
        rw [vS_cS, HP.out]
        have hB4' := hB3'.trans (hB4.mono hB3'.size)
        have HB4 := Lib.hid hB4'
        clear hB3 hB3' hB4 hB4'
        go_wp2_with fail
        go_roundw
        case rel => exact ⟨j, by omega, rfl, rfl, HB4.out⟩
        case measure => simp [intOf]
      · rw [decide_eq_false hodd] at hbit
        have hp := pow_even (vS a) (m := n / 2 ^ j) (k := m) (by omega)
        have HP := Lib.hid hp
        clear hp hh hodd hd hps2
        go_wp2_with fail
        refine (mul_any _ _ wr (hG.below HB.out) (Nat.le_trans HPS.out (by decide)) (Nat.le_trans HPS.out (by decide))).mono ?_
        rintro e w3 ⟨rfl, hB3⟩
        rw [vS_cS, HP.out]
        have hB3' := HB.out.trans (hB3.mono HB.out.size)
        have HB3 := Lib.hid hB3'
        clear hB3 hB3'
        go_wp2_with fail
        go_roundw
        case rel => exact ⟨j, by omega, rfl, rfl, HB3.out⟩
        case measure => simp [intOf]

end Go.Proofs.YtldohkfomdcpoaaGreatDoor
