/- the law IntegerMachine: the walk. -/
import Derived.Test.YtaopneanfflbcaaDoorLaw
namespace Go.Proofs.YtaopneanfflbcaaDoor
open Go.RowKit

set_option maxRecDepth 100000 in
set_option maxHeartbeats 4000000 in
theorem machine_any (m n : Int) (w : World) (hG : Ground w) (hm0 : -9223372036854775808 ≤ m) (hm1 : m ≤ 9223372036854775807) (hn0 : -9223372036854775808 ≤ n) (hn1 : n ≤ 9223372036854775807) :
    Calls Tryd.prog 12 #[.int .i64 m, .int .i64 n] w fun e w' => e = .returned (.bool true) ∧ Below w.heap.size w w' := by
  have hB : Below w.heap.size w w := Below.refl _ _
  have hsm : (cS m).size ≤ 4294967295 := Nat.le_trans (cS_int (by omega) (by omega)) (by decide)
  have hsn : (cS n).size ≤ 4294967295 := Nat.le_trans (cS_int (by omega) (by omega)) (by decide)
  have hsx : (cS 9223372036854775807).size ≤ 4294967295 := Nat.le_trans (cS_int (by omega) (by omega)) (by decide)
  have hsy : (cS (-9223372036854775808)).size ≤ 4294967295 := Nat.le_trans (cS_int (by omega) (by omega)) (by decide)
  have hsx1 : (cS (9223372036854775807 + 1)).size ≤ 4294967295 := Nat.le_trans (cS_int (by omega) (by omega)) (by decide)
  have hsy1 : (cS (-9223372036854775808 - 1)).size ≤ 4294967295 := Nat.le_trans (cS_int (by omega) (by omega)) (by decide)
  have hfm : fits (vS (cS m)) = true := by rw [vS_cS]; exact decide_eq_true ⟨hm0, hm1⟩
  have hfx : fits (vS (cS (9223372036854775807 + 1))) = false := by rw [vS_cS]; decide
  have hfy : fits (vS (cS (-9223372036854775808 - 1))) = false := by rw [vS_cS]; decide
  have HSM := Lib.hid hsm
  have HSN := Lib.hid hsn
  have HSX := Lib.hid hsx
  have HSY := Lib.hid hsy
  have HSX1 := Lib.hid hsx1
  have HSY1 := Lib.hid hsy1
  have HFM := Lib.hid hfm
  have HFX := Lib.hid hfx
  have HFY := Lib.hid hfy
  clear hsm hsn hsx hsy hsx1 hsy1 hfm hfx hfy
  go_enter Tryd.func12, Tryd.ntmps12
  go_wp2_with fail
  refine (of_any m w (hG.below hB) hm0 hm1).mono ?_
  rintro e w1 ⟨rfl, h⟩
  replace hB := hB.trans (h.mono hB.size)
  clear h
  go_wp2_with fail
  refine (small_fits (cS (m)) w1 (Nat.le_succ_of_le HSM.out) HFM.out).mono ?_
  rintro e w2 ⟨rfl, h⟩
  replace hB := hB.trans (h.mono hB.size)
  clear h
  rw [vS_cS]
  go_wp2_with fail
  refine (of_any m w2 (hG.below hB) hm0 hm1).mono ?_
  rintro e w3 ⟨rfl, h⟩
  replace hB := hB.trans (h.mono hB.size)
  clear h
  go_wp2_with fail
  refine (check_any (cS (m)) w3 (Nat.le_succ_of_le HSM.out)).mono ?_
  rintro e _ ⟨rfl, rfl⟩
  rw [chk_cS]
  go_wp2_with fail
  refine (of_any m w3 (hG.below hB) hm0 hm1).mono ?_
  rintro e w4 ⟨rfl, h⟩
  replace hB := hB.trans (h.mono hB.size)
  clear h
  go_wp2_with fail
  refine (of_any n w4 (hG.below hB) hn0 hn1).mono ?_
  rintro e w5 ⟨rfl, h⟩
  replace hB := hB.trans (h.mono hB.size)
  clear h
  go_wp2_with fail
  refine (compare_any (cS m) (cS n) w5 (Nat.le_succ_of_le HSM.out) (Nat.le_succ_of_le HSN.out)).mono ?_
  rintro e w6 ⟨rfl, h⟩
  replace hB := hB.trans (h.mono hB.size)
  clear h
  rw [vS_cS, vS_cS]
  go_wp2_with fail
  refine (lawCompare_any m n w6).mono ?_
  rintro e _ ⟨rfl, rfl⟩
  go_wp2_with fail
  refine (of_any 9223372036854775807 w6 (hG.below hB) (by decide) (by decide)).mono ?_
  rintro e w7 ⟨rfl, h⟩
  replace hB := hB.trans (h.mono hB.size)
  clear h
  go_wp2_with fail
  refine (add_any (cS 9223372036854775807) ⟨#[49]⟩ w7 (hG.below hB) (Nat.le_succ_of_le HSX.out) (by decide)).mono ?_
  rintro e w8 ⟨rfl, h⟩
  replace hB := hB.trans (h.mono hB.size)
  clear h
  rw [vS_cS, vS_one]
  go_wp2_with fail
  refine (small_not (cS (9223372036854775807 + 1)) w8 (hG.below hB) (Nat.le_succ_of_le HSX1.out) HFX.out).mono ?_
  rintro e w9 ⟨rfl, h⟩
  replace hB := hB.trans (h.mono hB.size)
  clear h
  go_wp2_with fail
  refine (of_any (-9223372036854775808) w9 (hG.below hB) (by decide) (by decide)).mono ?_
  rintro e w10 ⟨rfl, h⟩
  replace hB := hB.trans (h.mono hB.size)
  clear h
  go_wp2_with fail
  refine (sub_any (cS (-9223372036854775808)) ⟨#[49]⟩ w10 (hG.below hB) HSY.out (by decide)).mono ?_
  rintro e w11 ⟨rfl, h⟩
  replace hB := hB.trans (h.mono hB.size)
  clear h
  rw [vS_cS, vS_one]
  go_wp2_with fail
  refine (small_not (cS (-9223372036854775808 - 1)) w11 (hG.below hB) (Nat.le_succ_of_le HSY1.out) HFY.out).mono ?_
  rintro e w12 ⟨rfl, h⟩
  replace hB := hB.trans (h.mono hB.size)
  clear h
  by_cases hh : -1073741824 < m ∧ m < 1073741824 ∧ -1073741824 < n ∧ n < 1073741824
  · obtain ⟨h1, h2, h3, h4⟩ := hh
    have hp : -1152921504606846976 ≤ m * n ∧ m * n ≤ 1152921504606846976 := by
      have h := Int.natAbs_mul m n
      have h5 : m.natAbs * n.natAbs ≤ 1073741824 * 1073741824 := Nat.mul_le_mul (by omega) (by omega)
      omega
    obtain ⟨hp0, hp1⟩ := hp
    go_wp2_with fail
    refine (of_any m w12 (hG.below hB) hm0 hm1).mono ?_
    rintro e w13 ⟨rfl, h⟩
    replace hB := hB.trans (h.mono hB.size)
    clear h
    go_wp2_with fail
    refine (of_any n w13 (hG.below hB) hn0 hn1).mono ?_
    rintro e w14 ⟨rfl, h⟩
    replace hB := hB.trans (h.mono hB.size)
    clear h
    go_wp2_with fail
    refine (add_any (cS m) (cS n) w14 (hG.below hB) (Nat.le_succ_of_le HSM.out) (Nat.le_succ_of_le HSN.out)).mono ?_
    rintro e w15 ⟨rfl, h⟩
    replace hB := hB.trans (h.mono hB.size)
    clear h
    rw [vS_cS, vS_cS]
    go_wp2_with fail
    refine (of_any (m + n) w15 (hG.below hB) (by omega) (by omega)).mono ?_
    rintro e w16 ⟨rfl, h⟩
    replace hB := hB.trans (h.mono hB.size)
    clear h
    go_wp2_with fail
    refine (of_any m w16 (hG.below hB) hm0 hm1).mono ?_
    rintro e w17 ⟨rfl, h⟩
    replace hB := hB.trans (h.mono hB.size)
    clear h
    go_wp2_with fail
    refine (of_any n w17 (hG.below hB) hn0 hn1).mono ?_
    rintro e w18 ⟨rfl, h⟩
    replace hB := hB.trans (h.mono hB.size)
    clear h
    go_wp2_with fail
    refine (sub_any (cS m) (cS n) w18 (hG.below hB) HSM.out HSN.out).mono ?_
    rintro e w19 ⟨rfl, h⟩
    replace hB := hB.trans (h.mono hB.size)
    clear h
    rw [vS_cS, vS_cS]
    go_wp2_with fail
    refine (of_any (m - n) w19 (hG.below hB) (by omega) (by omega)).mono ?_
    rintro e w20 ⟨rfl, h⟩
    replace hB := hB.trans (h.mono hB.size)
    clear h
    go_wp2_with fail
    refine (of_any m w20 (hG.below hB) hm0 hm1).mono ?_
    rintro e w21 ⟨rfl, h⟩
    replace hB := hB.trans (h.mono hB.size)
    clear h
    go_wp2_with fail
    refine (of_any n w21 (hG.below hB) hn0 hn1).mono ?_
    rintro e w22 ⟨rfl, h⟩
    replace hB := hB.trans (h.mono hB.size)
    clear h
    go_wp2_with fail
    refine (mul_any (cS m) (cS n) w22 (hG.below hB) (Nat.le_succ_of_le HSM.out) (Nat.le_succ_of_le HSN.out)).mono ?_
    rintro e w23 ⟨rfl, h⟩
    replace hB := hB.trans (h.mono hB.size)
    clear h
    rw [vS_cS, vS_cS]
    go_wp2_with fail
    refine (of_any (m * n) w23 (hG.below hB) (by omega) (by omega)).mono ?_
    rintro e w24 ⟨rfl, h⟩
    replace hB := hB.trans (h.mono hB.size)
    clear h
    go_wp2_with fail
    refine (awake_any w24 (hG.below hB)).mono ?_
    rintro e w25 ⟨rfl, h⟩
    replace hB := hB.trans (h.mono hB.size)
    clear h
    go_wp2_with fail
    go_ret
    exact ⟨rfl, hB⟩
  · have hh4 : 1073741824 ≤ m ∨ (m < 1073741824 ∧ m ≤ -1073741824) ∨ (m < 1073741824 ∧ -1073741824 < m ∧ 1073741824 ≤ n) ∨ (m < 1073741824 ∧ -1073741824 < m ∧ n < 1073741824 ∧ n ≤ -1073741824) := by omega
    clear hh
    rcases hh4 with h1 | ⟨h1, h2⟩ | ⟨h1, h2, h3⟩ | ⟨h1, h2, h3, h4⟩
    · go_wp2_with fail
      refine (awake_any w12 (hG.below hB)).mono ?_
      rintro e w13 ⟨rfl, h⟩
      replace hB := hB.trans (h.mono hB.size)
      clear h
      go_wp2_with fail
      go_ret
      exact ⟨rfl, hB⟩
    · go_wp2_with fail
      refine (awake_any w12 (hG.below hB)).mono ?_
      rintro e w13 ⟨rfl, h⟩
      replace hB := hB.trans (h.mono hB.size)
      clear h
      go_wp2_with fail
      go_ret
      exact ⟨rfl, hB⟩
    · go_wp2_with fail
      refine (awake_any w12 (hG.below hB)).mono ?_
      rintro e w13 ⟨rfl, h⟩
      replace hB := hB.trans (h.mono hB.size)
      clear h
      go_wp2_with fail
      go_ret
      exact ⟨rfl, hB⟩
    · go_wp2_with fail
      refine (awake_any w12 (hG.below hB)).mono ?_
      rintro e w13 ⟨rfl, h⟩
      replace hB := hB.trans (h.mono hB.size)
      clear h
      go_wp2_with fail
      go_ret
      exact ⟨rfl, hB⟩

end Go.Proofs.YtaopneanfflbcaaDoor
