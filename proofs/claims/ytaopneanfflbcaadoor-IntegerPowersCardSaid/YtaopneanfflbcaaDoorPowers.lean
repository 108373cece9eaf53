/- the law IntegerPowers: the walk. -/
import Derived.Test.YtaopneanfflbcaaDoorLaw
namespace Go.Proofs.YtaopneanfflbcaaDoor
open Go.RowKit

theorem Cap.pow {k : Nat} {x : Int} (h : Cap k x) (m : Nat) : Cap (k * m + 1) (x ^ m) := by
  unfold Cap at *
  rw [Int.natAbs_pow, Nat.pow_succ, Nat.pow_mul]
  have h1 : x.natAbs ^ m ≤ (10 ^ k) ^ m := Nat.pow_le_pow_left (Nat.le_of_lt h) m
  have h2 : 0 < (10 ^ k) ^ m := Nat.pow_pos (Nat.pow_pos (by decide))
  omega
theorem power_v {a : ByteArray} {x z i : Int} {k : Nat} (w : World) (hG : Ground w) (ha : a.size ≤ 1000000) (hk : k ≤ 400) (hi : i = k) (hx : vS a = x) (hz : x ^ k = z) :
    Calls Tryd.prog 31 #[.string a, .int .i64 i] w (PowPost w z) := by rw [hi, ← hz, ← hx]; exact power_any a k w hG ha hk

theorem run_max0 (w : World) : (Builtin.max_ #[27, 27, 27, 27, 27] 27 #[.int .i64 0, .int .i64 0, .int .i64 0, .int .i64 0, .int .i64 0]).run Tryd.prog w = .ok (.int .i64 0) w := by kernel_rfl

set_option maxRecDepth 100000 in
set_option maxHeartbeats 8000000 in
theorem powers_any (a b : ByteArray) (mi ni : Int) (w : World) (hG : Ground w) (hm0 : 0 ≤ mi) (hm1 : mi ≤ 255) (hn0 : 0 ≤ ni) (hn1 : ni ≤ 255) :
    Calls Tryd.prog 10 #[.string a, .string b, .int .u8 mi, .int .u8 ni] w fun e w' => e = .returned (.bool true) ∧ Below w.heap.size w w' := by
  obtain ⟨m, rfl⟩ : ∃ m : Nat, mi = m := ⟨mi.toNat, by omega⟩
  obtain ⟨n, rfl⟩ : ∃ n : Nat, ni = n := ⟨ni.toNat, by omega⟩
  have hB : Below w.heap.size w w := Below.refl _ _
  obtain ⟨x, hx⟩ : ∃ x, vS a = x := ⟨_, rfl⟩
  obtain ⟨y, hy⟩ : ∃ y, vS b = y := ⟨_, rfl⟩
  have HX := Lib.hid hx
  have HY := Lib.hid hy
  clear hx hy
  by_cases h1 : (8 : Int) < a.size
  · go_enter Tryd.func10, Tryd.ntmps10
    go_wp2_with fail
    refine (awake_any w (hG.below hB)).mono ?_
    rintro e w1 ⟨rfl, h⟩
    replace hB := hB.trans (h.mono hB.size)
    clear h
    go_wp2_with fail
    go_ret
    exact ⟨rfl, hB⟩
  by_cases h2 : (8 : Int) < b.size
  · go_enter Tryd.func10, Tryd.ntmps10
    go_wp2_with fail
    refine (awake_any w (hG.below hB)).mono ?_
    rintro e w1 ⟨rfl, h⟩
    replace hB := hB.trans (h.mono hB.size)
    clear h
    go_wp2_with fail
    go_ret
    exact ⟨rfl, hB⟩
  by_cases h3 : (40 : Int) < m
  · go_enter Tryd.func10, Tryd.ntmps10
    go_wp2_with fail
    refine (awake_any w (hG.below hB)).mono ?_
    rintro e w1 ⟨rfl, h⟩
    replace hB := hB.trans (h.mono hB.size)
    clear h
    go_wp2_with fail
    go_ret
    exact ⟨rfl, hB⟩
  by_cases h4 : (40 : Int) < n
  · go_enter Tryd.func10, Tryd.ntmps10
    go_wp2_with fail
    refine (awake_any w (hG.below hB)).mono ?_
    rintro e w1 ⟨rfl, h⟩
    replace hB := hB.trans (h.mono hB.size)
    clear h
    go_wp2_with fail
    go_ret
    exact ⟨rfl, hB⟩
  have h5 : a.size ≤ 8 := by omega
  have h6 : b.size ≤ 8 := by omega
  have h7 : m ≤ 40 := by omega
  have h8 : n ≤ 40 := by omega
  have HA := Lib.hid h5
  have HBB := Lib.hid h6
  have HM := Lib.hid h7
  have HN := Lib.hid h8
  have cx := Cap.of h5 HX.out
  have cy := Cap.of h6 HY.out
  have hsm : (cS (x * y)).size ≤ 1000000 := by have := cS_size (Cap.mul cx cy); omega
  have HSM := Lib.hid hsm
  have hp1 : (cS (x ^ m)).size ≤ 4294967295 := Cap.size (Cap.pow cx m) (by omega)
  have HP1 := Lib.hid hp1
  clear hp1
  have hp2 : (cS (x ^ n)).size ≤ 4294967295 := Cap.size (Cap.pow cx n) (by omega)
  have HP2 := Lib.hid hp2
  clear hp2
  have hp3 : (cS (y ^ m)).size ≤ 4294967295 := Cap.size (Cap.pow cy m) (by omega)
  have HP3 := Lib.hid hp3
  clear hp3
  clear cx cy hsm h5 h6
  go_enter Tryd.func10, Tryd.ntmps10
  go_wp2_with fail
  refine (power_v (a := a) (x := x) (z := x ^ m) (i := (m : Int)) (k := m) w (hG.below hB) (Nat.le_trans HA.out (by decide)) (by omega) rfl HX.out rfl).mono ?_
  rintro e w1 ⟨rfl, h⟩
  replace hB := hB.trans (h.mono hB.size)
  clear h
  go_wp2_with fail
  refine (power_v (a := a) (x := x) (z := x ^ n) (i := (n : Int)) (k := n) w1 (hG.below hB) (Nat.le_trans HA.out (by decide)) (by omega) rfl HX.out rfl).mono ?_
  rintro e w2 ⟨rfl, h⟩
  replace hB := hB.trans (h.mono hB.size)
  clear h
  go_wp2_with fail
  refine (power_v (a := a) (x := x) (z := x ^ m * x ^ n) (i := ((m : Int) + n)) (k := (m + n)) w2 (hG.below hB) (Nat.le_trans HA.out (by decide)) (by omega) (by omega) HX.out (Int.pow_add x m n)).mono ?_
  rintro e w3 ⟨rfl, h⟩
  replace hB := hB.trans (h.mono hB.size)
  clear h
  go_wp2_with fail
  refine (power_v (a := b) (x := y) (z := y ^ m) (i := (m : Int)) (k := m) w3 (hG.below hB) (Nat.le_trans HBB.out (by decide)) (by omega) rfl HY.out rfl).mono ?_
  rintro e w4 ⟨rfl, h⟩
  replace hB := hB.trans (h.mono hB.size)
  clear h
  go_wp2_with fail
  refine (mul_v (a := a) (b := b) (x := x) (y := y) (z := x * y) w4 (hG.below hB) (Nat.le_trans HA.out (by decide)) (Nat.le_trans HBB.out (by decide)) HX.out HY.out rfl).mono ?_
  rintro e w5 ⟨rfl, h⟩
  replace hB := hB.trans (h.mono hB.size)
  clear h
  go_wp2_with fail
  refine (power_v (a := (cS (x * y))) (x := (x * y)) (z := x ^ m * y ^ m) (i := (m : Int)) (k := m) w5 (hG.below hB) HSM.out (by omega) rfl (vS_cS _) (Int.mul_pow ..)).mono ?_
  rintro e w6 ⟨rfl, h⟩
  replace hB := hB.trans (h.mono hB.size)
  clear h
  go_wp2_with fail
  refine (power_range a (-1 - (n : Int)) w6 (.inl (by omega))).mono ?_
  rintro e _ ⟨rfl, rfl⟩
  have hmx := run_max0 w6
  go_wp2_with fail
  refine (mul_v (a := cS (x ^ m)) (b := cS (x ^ n)) (x := x ^ m) (y := x ^ n) (z := x ^ m * x ^ n) w6 (hG.below hB) HP1.out HP2.out (vS_cS _) (vS_cS _) rfl).mono ?_
  rintro e w7 ⟨rfl, h⟩
  replace hB := hB.trans (h.mono hB.size)
  clear h
  go_wp2_with fail
  refine (mul_v (a := cS (x ^ m)) (b := cS (y ^ m)) (x := x ^ m) (y := y ^ m) (z := x ^ m * y ^ m) w7 (hG.below hB) HP1.out HP3.out (vS_cS _) (vS_cS _) rfl).mono ?_
  rintro e w8 ⟨rfl, h⟩
  replace hB := hB.trans (h.mono hB.size)
  clear h
  go_wp2_with fail
  refine (awake_any w8 (hG.below hB)).mono ?_
  rintro e w9 ⟨rfl, h⟩
  replace hB := hB.trans (h.mono hB.size)
  clear h
  go_wp2_with fail
  go_ret
  exact ⟨rfl, hB⟩

end Go.Proofs.YtaopneanfflbcaaDoor
