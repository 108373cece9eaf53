/- The reference implementation of layer 1: Power: the walk. -/
import Derived.Test.YtaopneanfflbcaaDoorRefL
import Derived.Test.YtaopneanfflbcaaDoorPower
namespace Go.Proofs.YtaopneanfflbcaaDoor
open Go.RowKit

theorem rPower_range (a : ByteArray) (n : Int) (w : World) (h : n < 0 ∨ 400 < n) :
    Calls Tryd.prog 32 #[.string a, .int .i64 n] w fun e w' => e = .returned (.tuple #[.string ⟨#[]⟩, .int .i64 2]) ∧ w = w' := by
  by_cases h0 : n < 0
  · go_enter Tryd.func32, Tryd.ntmps32
    go_wp2
    go_ret2
    exact ⟨rfl, rfl⟩
  · have h1 : 400 < n := by omega
    go_enter Tryd.func32, Tryd.ntmps32
    go_wp2
    go_ret2
    exact ⟨rfl, rfl⟩

theorem pow_small (a : ByteArray) (ha : a.size ≤ 12) (p : Nat) (hp : p ≤ 61) : (cS (vS a ^ p)).size ≤ 1000 := by
  have h1 := vS_lt a
  have h2 := Nat.pow_le_pow_right (show 1 ≤ 10 by decide) ha
  have h3 : (vS a ^ p).natAbs ≤ (10 ^ 12) ^ p := by
    rw [Int.natAbs_pow]
    exact Nat.pow_le_pow_left (by omega) p
  rw [← Nat.pow_mul] at h3
  have h4 : 10 ^ (12 * p) < 10 ^ (12 * p + 1) := Nat.pow_lt_pow_right (by decide) (by omega)
  have h5 := cS_size (z := vS a ^ p) (k := 12 * p + 1) (by omega)
  omega

/-- the power so far, p, and the square, q, for m that is left of the exponent -/
structure PRel (N : Nat) (m : Int) (p q : Nat) : Prop where
  m0 : 0 ≤ m
  m1 : m ≤ 60
  sum : p + q * m.toNat = N
  q1 : q ≤ 60
  p1 : p ≤ 60

theorem PRel.odd {N : Nat} {m : Int} {p q : Nat} (h : PRel N m p q) (hN : N ≤ 60) (hm : 0 < m / 2) (ho : m % 2 = 1) : PRel N (m / 2) (p + q) (q + q) := by
  have hs := h.sum
  have h1 := h.m0
  have h2 := h.m1
  obtain ⟨t, ht⟩ : ∃ t : Nat, (t : Int) = m / 2 := ⟨(m / 2).toNat, by omega⟩
  have e1 : m.toNat = 2 * t + 1 := by omega
  have e2 : (m / 2).toNat = t := by omega
  rw [e1, Nat.mul_add, Nat.mul_one, ← Nat.mul_assoc] at hs
  have h3 : (q + q) * t = q * 2 * t := by rw [Nat.mul_two]
  have h4 : q + q ≤ (q + q) * t := Nat.le_mul_of_pos_right _ (by omega)
  exact ⟨by omega, by omega, by rw [e2]; omega, by omega, by omega⟩
theorem PRel.even {N : Nat} {m : Int} {p q : Nat} (h : PRel N m p q) (hN : N ≤ 60) (hm : 0 < m / 2) (ho : m % 2 = 0) : PRel N (m / 2) p (q + q) := by
  have hs := h.sum
  have h1 := h.m0
  have h2 := h.m1
  obtain ⟨t, ht⟩ : ∃ t : Nat, (t : Int) = m / 2 := ⟨(m / 2).toNat, by omega⟩
  have e1 : m.toNat = 2 * t := by omega
  have e2 : (m / 2).toNat = t := by omega
  rw [e1, ← Nat.mul_assoc] at hs
  have h3 : (q + q) * t = q * 2 * t := by rw [Nat.mul_two]
  have h4 : q + q ≤ (q + q) * t := Nat.le_mul_of_pos_right _ (by omega)
  exact ⟨by omega, by omega, by rw [e2]; omega, by omega, h.p1⟩
theorem PRel.last {N : Nat} {m : Int} {p q : Nat} (h : PRel N m p q) (hN : N ≤ 60) (hm0 : 0 < m) (hm : ¬ 0 < m / 2) : PRel N (m / 2) (p + q) q := by
  have hs := h.sum
  obtain rfl : m = 1 := by omega
  simp at hs
  exact ⟨by decide, by decide, by simpa using hs, h.q1, by omega⟩
theorem PRel.add {N : Nat} {m : Int} {p q : Nat} (h : PRel N m p q) (hN : N ≤ 60) (hm0 : 0 < m) : p + q ≤ 60 := by
  have hs := h.sum
  have h4 : q ≤ q * m.toNat := Nat.le_mul_of_pos_right _ (by omega)
  omega
theorem PRel.done {N : Nat} {p q : Nat} (h : PRel N 0 p q) : p = N := by have := h.sum; simpa using this

set_option maxRecDepth 100000 in
set_option maxHeartbeats 2000000 in
theorem rPower_any (a : ByteArray) (N : Nat) (w : World) (ha : a.size ≤ 12) (hN : N ≤ 60) :
    Calls Tryd.prog 32 #[.string a, .int .i64 N] w (PowPost w (vS a ^ N)) := by
  obtain ⟨n, hn⟩ : ∃ n : Int, n = (N : Int) := ⟨_, rfl⟩
  rw [← hn]
  have hn0 : 0 ≤ n := by omega
  have hn1 : n ≤ 60 := by omega
  have hst : PRel N n 0 1 := ⟨hn0, hn1, by rw [hn]; simp, by decide, by decide⟩
  have HST := Lib.hid hst
  clear hst hn
  go_enter Tryd.func32, Tryd.ntmps32
  go_wp2_with fail
  refine (rOf_any 1 w (by decide) (by decide)).mono ?_
  rintro e _ ⟨rfl, rfl⟩
  go_wp2_with fail
  refine (rCanonical_any a w (by omega)).mono ?_
  rintro e _ ⟨rfl, rfl⟩
  go_wp2_with fail
  go_loopw [1, 6, 7] (fun nv ov sv wr => ∃ (m : Int) (p q : Nat), nv = .int .i64 m ∧ ov = .string (cS (vS a ^ p)) ∧ sv = .string (cS (vS a ^ q)) ∧ PRel N m p q ∧ Below w.heap.size w wr) (fun nv _ _ _ => (intOf nv).toNat)
  case atStart => exact ⟨n, 0, 1, rfl, by rw [Int.pow_zero], by rw [Int.pow_one], HST.out, Below.refl _ _⟩
  case round =>
    clear HST
    obtain ⟨m, p, q, rfl, rfl, rfl, hr, hB⟩ := hrel
    have hm0 := hr.m0
    have hm1 := hr.m1
    have hps := pow_small a ha p (by have := hr.p1; omega)
    have hqs := pow_small a ha q (by have := hr.q1; omega)
    have HR := Lib.hid hr
    have HB := Lib.hid hB
    have HPS := Lib.hid hps
    have HQS := Lib.hid hqs
    clear hr hB hps hqs
    by_cases hz : 0 < m
    · have hpq := HR.out.add hN hz
      obtain ⟨d, hd⟩ : ∃ d, m % 2 = d := ⟨_, rfl⟩
      obtain ⟨h, hh⟩ : ∃ h, m / 2 = h := ⟨_, rfl⟩
      have hlt : h < m := by omega
      have hh0 : 0 ≤ h := by omega
      have hq2 := fun (e : m % 2 = 0) => e
      by_cases hodd : d = 1
      · have hdb : (d == 1) = true := by rw [hodd]; rfl
        by_cases hh1 : 0 < h
        · have HN := Lib.hid (HR.out.odd hN (by rw [hh]; exact hh1) (by rw [hd]; exact hodd))
          clear hodd hq2
          go_wp2_with fail
          refine (rMul_any _ _ wr HPS.out HQS.out).mono ?_
          rintro e w3 ⟨rfl, hB3⟩
          rw [vS_cS, vS_cS, ← Int.pow_add]
          have HB3 := Lib.hid (HB.out.trans (hB3.mono HB.out.size))
          clear hB3
          go_wp2_with fail
          refine (rMul_any _ _ w3 HQS.out HQS.out).mono ?_
          rintro e w4 ⟨rfl, hB4⟩
          rw [vS_cS, ← Int.pow_add]
          have HB4 := Lib.hid (HB3.out.trans (hB4.mono HB3.out.size))
          clear hB4
          go_wp2_with fail
          go_roundw
          case rel => exact ⟨h, p + q, q + q, by first | rfl | rw [hh], rfl, rfl, by rw [← hh]; exact HN.out, HB4.out⟩
          case measure => simp [intOf]; omega
        · have HN := Lib.hid (HR.out.last hN hz (by rw [hh]; exact hh1))
          clear hodd hq2
          go_wp2_with fail
          refine (rMul_any _ _ wr HPS.out HQS.out).mono ?_
          rintro e w3 ⟨rfl, hB3⟩
          rw [vS_cS, vS_cS, ← Int.pow_add]
          have HB3 := Lib.hid (HB.out.trans (hB3.mono HB.out.size))
          clear hB3
          go_wp2_with fail
          go_roundw
          case rel => exact ⟨h, p + q, q, by first | rfl | rw [hh], rfl, rfl, by rw [← hh]; exact HN.out, HB3.out⟩
          case measure => simp [intOf]; omega
      · have hdb : (d == 1) = false := by rw [beq_eq_false_iff_ne]; exact hodd
        have hh1 : 0 < h := by omega
        have HN := Lib.hid (HR.out.even hN (by rw [hh]; exact hh1) (by omega))
        clear hodd hq2
        go_wp2_with fail
        refine (rMul_any _ _ wr HQS.out HQS.out).mono ?_
        rintro e w3 ⟨rfl, hB3⟩
        rw [vS_cS, ← Int.pow_add]
        have HB3 := Lib.hid (HB.out.trans (hB3.mono HB.out.size))
        clear hB3
        go_wp2_with fail
        go_roundw
        case rel => exact ⟨h, p, q + q, by first | rfl | rw [hh], rfl, rfl, by rw [← hh]; exact HN.out, HB3.out⟩
        case measure => simp [intOf]; omega
    · obtain rfl : m = 0 := by omega
      have H := Lib.hid HR.out.done
      go_wp2_with fail
      go_ret2
      exact ⟨by rw [H.out]; rfl, HB.out⟩

end Go.Proofs.YtaopneanfflbcaaDoor
