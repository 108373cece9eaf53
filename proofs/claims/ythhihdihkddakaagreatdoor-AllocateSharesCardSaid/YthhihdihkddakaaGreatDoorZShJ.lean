/- The reference implementation of layer 1: Gcd, Power: walks. -/
import Derived.Test.YthhihdihkddakaaGreatDoorZShA
import Derived.Test.YthhihdihkddakaaGreatDoorZShE
import Derived.Test.YthhihdihkddakaaGreatDoorZShF
import Derived.Test.YthhihdihkddakaaGreatDoorZShH
import Derived.Test.YthhihdihkddakaaGreatDoorZShI
import Derived.Deep.RegionHeld3
namespace Go.Proofs.YthhihdihkddakaaGreatDoor
open Go.RowKit

theorem dig_cS (s : ByteArray) : (ByteArray.mk (Num.sdig s.data.toList).toArray) = cS ((vS s).natAbs : Int) := by
  unfold cS Num.canon
  rw [if_neg (by omega), Num.sdig_val]
  simp [vS]
def absV : Value → Nat | .string s => (vS s).natAbs | _ => 0

set_option maxRecDepth 100000 in
set_option maxHeartbeats 2000000 in
theorem rGcd_any (a b : ByteArray) (w : World) (ha : a.size ≤ 900) (hb : b.size ≤ 900) :
    Calls Tryz.prog 151 #[.string a, .string b] w (StrPost w (Int.gcd (vS a) (vS b) : Int)) := by
  have hma := lim_max (show a.size ≤ 4294967296 by omega)
  have hmb := lim_max (show b.size ≤ 4294967296 by omega)
  have hA := vS_lt a
  have hB0 := vS_lt b
  have hA2 := Nat.pow_le_pow_right (show 1 ≤ 10 by decide) ha
  have hB2 := Nat.pow_le_pow_right (show 1 ≤ 10 by decide) hb
  have HA := Lib.hid (Nat.lt_of_lt_of_le hA hA2)
  have HB := Lib.hid (Nat.lt_of_lt_of_le hB0 hB2)
  clear hA hB0 hA2 hB2
  have hst : (Int.gcd ((vS a).natAbs : Int) ((vS b).natAbs : Int) : Int) = (Int.gcd (vS a) (vS b) : Int) := by simp [Int.gcd]
  have HST := Lib.hid hst
  clear hst
  go_enter Tryz.func151, Tryz.ntmps151
  go_wp2_with fail
  refine (digits_any a _ hma).mono ?_
  rintro e w' ⟨rfl, rfl⟩
  rw [dig_cS]
  go_wp2_with fail
  refine (digits_any b _ hmb).mono ?_
  rintro e w' ⟨rfl, rfl⟩
  rw [dig_cS]
  go_wp2_with fail
  go_loopw [9, 10] (fun xv yv wr => ∃ X Y : Int, 0 ≤ X ∧ 0 ≤ Y ∧ xv = .string (cS X) ∧ yv = .string (cS Y) ∧ (Int.gcd X Y : Int) = (Int.gcd (vS a) (vS b) : Int) ∧ X.natAbs < 10 ^ 900 ∧ Y.natAbs < 10 ^ 900 ∧ Below w.heap.size w wr) (fun _ yv _ => absV yv)
  case atStart => exact ⟨_, _, by omega, by omega, rfl, rfl, HST.out, by rw [Int.natAbs_natCast]; exact HA.out, by rw [Int.natAbs_natCast]; exact HB.out, Below.refl _ _⟩
  case round =>
    clear HST HA HB
    obtain ⟨X, Y, hX0, hY0, rfl, rfl, hg, hX, hY, hB⟩ := hrel
    have HG := Lib.hid hg
    have HX := Lib.hid hX
    have HY := Lib.hid hY
    have HB := Lib.hid hB
    clear hg hX hY hB
    by_cases hz : Y = 0
    · subst hz
      have H := Lib.hid (show X = (Int.gcd (vS a) (vS b) : Int) by rw [← HG.out, Int.gcd_zero_right]; omega)
      have hc0 : (cS 0) = ⟨#[]⟩ := by decide +kernel
      clear HG HX HY
      go_wp2_with fail
      go_ret
      exact ⟨by rw [H.out]; rfl, HB.out⟩
    · have hb := cS_empty Y
      rw [decide_eq_false hz] at hb
      have hsx : (cS X).size ≤ 1000 := Nat.le_trans (cS_size HX.out) (by decide)
      have hsy : (cS Y).size ≤ 1000 := Nat.le_trans (cS_size HY.out) (by decide)
      have hv0 : vS (cS Y) ≠ 0 := by rw [vS_cS]; exact hz
      have hdm := Int.fmod_add_mul_fdiv X Y
      have h1 : 0 ≤ Int.fmod X Y := Int.fmod_nonneg_of_pos _ (by omega)
      have h2 : Int.fmod X Y < Y := Int.fmod_lt_of_pos _ (by omega)
      have hgs := gcd_step (A := X) (D := Y) (Q := Int.fdiv X Y) (R := Int.fmod X Y) (by rw [Int.mul_comm (Int.fdiv X Y)]; omega)
      have HNG := Lib.hid (show (Int.gcd Y (Int.fmod X Y) : Int) = (Int.gcd (vS a) (vS b) : Int) by rw [hgs, HG.out])
      have HNR := Lib.hid (show (Int.fmod X Y).natAbs < 10 ^ 900 from Nat.lt_of_le_of_lt (by omega) HY.out)
      have HM := Lib.hid (And.intro h1 h2)
      have HV0 := Lib.hid hv0
      clear hdm h1 h2 hgs hv0 hz
      go_wp2_with fail
      refine (rDiv_any (cS X) (cS Y) wr hsx hsy HV0.out).mono ?_
      rintro e w3 ⟨rfl, hB3⟩
      rw [vS_cS, vS_cS]
      have HB3 := Lib.hid (HB.out.trans (hB3.mono HB.out.size))
      clear hB3
      go_wp2_with fail
      go_roundw
      case rel => exact ⟨Y, Int.fmod X Y, hY0, HM.out.1, rfl, rfl, HNG.out, HY.out, HNR.out, HB3.out⟩
      case measure => unfold absV; simp only [vS_cS]; have := HM.out; omega

end Go.Proofs.YthhihdihkddakaaGreatDoor

/- The reference implementation of layer 1: Compare: the walk. -/
namespace Go.Proofs.YthhihdihkddakaaGreatDoor
open Go.RowKit

/-- the order of two integers by their signs and digits -/
theorem cmp_signs {a b : ByteArray} (ha : Num.sneg a.data.toList = true) (hb : Num.sneg b.data.toList = false) : cmp3 (vS a) (vS b) = -1 ∧ cmp3 (vS b) (vS a) = 1 := by
  have h1 := (vS_neg ha).2
  have h2 := (vS_pos hb).2
  exact ⟨cmp3_lt (by omega), cmp3_gt (by omega)⟩

set_option maxHeartbeats 1000000 in
theorem rCompare_false_false (a b : ByteArray) (w : World) (ha : a.size ≤ 4294967296) (hb : b.size ≤ 4294967296) (hna : Num.sneg a.data.toList = false) (hnb : Num.sneg b.data.toList = false) :
    Calls Tryz.prog 73 #[.string a, .string b] w fun e w' => e = .returned (.int .i64 (cmp3 (vS a) (vS b))) ∧ w = w' := by
  have hma := lim_max ha
  have hmb := lim_max hb
  obtain ⟨X, hX, hXl, hXa, hXs⟩ := dig_str a
  obtain ⟨Y, hY, hYl, hYa, hYs⟩ := dig_str b
  have HDA := Lib.hid hX
  have HDB := Lib.hid hY
  have HNA := Lib.hid hna
  have HNB := Lib.hid hnb
  have hva := (vS_pos hna).1
  have hvb := (vS_pos hnb).1
  rw [← hXl] at hva
  rw [← hYl] at hvb
  have pa := Num.Plain.sdig a.data.toList
  have pb := Num.Plain.sdig b.data.toList
  rw [← hXl] at pa
  rw [← hYl] at pb
  have HVA := Lib.hid hva
  have HVB := Lib.hid hvb
  have HPA := Lib.hid pa
  have HPB := Lib.hid pb
  clear hX hY hna hnb hXl hXa hYl hYa hva hvb pa pb
  by_cases h1 : X.size < Y.size
  · have hc : cmp3 (vS a) (vS b) = -1 := by
      have := num_lt_of_length HPA.out HPB.out (by rw [size_toList, size_toList]; exact h1)
      rw [HVA.out, HVB.out]
      exact cmp3_lt (by omega)
    have H := Lib.hid hc
    have hq : ((X.size : Int) == (Y.size : Int)) = false := by rw [beq_eq_false_iff_ne]; omega
    clear hc
    go_enter Tryz.func73, Tryz.ntmps73
    go_wp2_with fail
    refine (digits_any a w hma).mono ?_
    rintro e w' ⟨rfl, rfl⟩
    rw [← HDA.out, HNA.out]
    go_wp2_with fail
    refine (digits_any b w hmb).mono ?_
    rintro e w' ⟨rfl, rfl⟩
    rw [← HDB.out, HNB.out]
    go_wp2_with fail
    go_ret
    exact ⟨by rw [H.out]; rfl, rfl⟩
  · by_cases h2 : Y.size < X.size
    · have hc : cmp3 (vS a) (vS b) = 1 := by
        have := num_lt_of_length HPB.out HPA.out (by rw [size_toList, size_toList]; exact h2)
        rw [HVA.out, HVB.out]
        exact cmp3_gt (by omega)
      have H := Lib.hid hc
      have hq : ((X.size : Int) == (Y.size : Int)) = false := by rw [beq_eq_false_iff_ne]; omega
      clear hc
      go_enter Tryz.func73, Tryz.ntmps73
      go_wp2_with fail
      refine (digits_any a w hma).mono ?_
      rintro e w' ⟨rfl, rfl⟩
      rw [← HDA.out, HNA.out]
      go_wp2_with fail
      refine (digits_any b w hmb).mono ?_
      rintro e w' ⟨rfl, rfl⟩
      rw [← HDB.out, HNB.out]
      go_wp2_with fail
      go_ret
      exact ⟨by rw [H.out]; rfl, rfl⟩
    · have hl : X.data.toList.length = Y.data.toList.length := by rw [size_toList, size_toList]; omega
      have hq : ((X.size : Int) == (Y.size : Int)) = true := by rw [beq_iff_eq]; omega
      have e1 := bytesLess_num _ _ HPA.out.1 HPB.out.1 hl
      have e2 := beq_num HPA.out.1 HPB.out.1 hl
      rw [← Lib.toList_data X, ← Lib.toList_data Y] at e1 e2
      by_cases h3 : Num.num X.data.toList < Num.num Y.data.toList
      · have hc : cmp3 (vS a) (vS b) = -1 := by
          rw [HVA.out, HVB.out]
          exact cmp3_lt (by omega)
        have H := Lib.hid hc
        rw [Lib.toList_data X, Lib.toList_data Y, decide_eq_true h3, ← Lib.toList_data X, ← Lib.toList_data Y] at e1
        clear hc e2 h1 h2 h3 hl
        go_enter Tryz.func73, Tryz.ntmps73
        go_wp2_with fail
        refine (digits_any a w hma).mono ?_
        rintro e w' ⟨rfl, rfl⟩
        rw [← HDA.out, HNA.out]
        go_wp2_with fail
        refine (digits_any b w hmb).mono ?_
        rintro e w' ⟨rfl, rfl⟩
        rw [← HDB.out, HNB.out]
        go_wp2_with fail
        go_ret
        exact ⟨by rw [H.out]; rfl, rfl⟩
      · by_cases h4 : Num.num Y.data.toList < Num.num X.data.toList
        · have hc : cmp3 (vS a) (vS b) = 1 := by
            rw [HVA.out, HVB.out]
            exact cmp3_gt (by omega)
          have H := Lib.hid hc
          rw [Lib.toList_data X, Lib.toList_data Y, decide_eq_false h3, ← Lib.toList_data X, ← Lib.toList_data Y] at e1
          rw [Lib.toList_data X, Lib.toList_data Y, decide_eq_false (by omega), ← Lib.toList_data X, ← Lib.toList_data Y] at e2
          clear hc h1 h2 h3 h4 hl
          go_enter Tryz.func73, Tryz.ntmps73
          go_wp2_with fail
          refine (digits_any a w hma).mono ?_
          rintro e w' ⟨rfl, rfl⟩
          rw [← HDA.out, HNA.out]
          go_wp2_with fail
          refine (digits_any b w hmb).mono ?_
          rintro e w' ⟨rfl, rfl⟩
          rw [← HDB.out, HNB.out]
          go_wp2_with fail
          go_ret
          exact ⟨by rw [H.out]; rfl, rfl⟩
        · have hc : cmp3 (vS a) (vS b) = 0 := by
            rw [HVA.out, HVB.out]
            exact cmp3_eq (by omega)
          have H := Lib.hid hc
          rw [Lib.toList_data X, Lib.toList_data Y, decide_eq_false h3, ← Lib.toList_data X, ← Lib.toList_data Y] at e1
          rw [Lib.toList_data X, Lib.toList_data Y, decide_eq_true (by omega), ← Lib.toList_data X, ← Lib.toList_data Y] at e2
          clear hc h1 h2 h3 h4 hl
          go_enter Tryz.func73, Tryz.ntmps73
          go_wp2_with fail
          refine (digits_any a w hma).mono ?_
          rintro e w' ⟨rfl, rfl⟩
          rw [← HDA.out, HNA.out]
          go_wp2_with fail
          refine (digits_any b w hmb).mono ?_
          rintro e w' ⟨rfl, rfl⟩
          rw [← HDB.out, HNB.out]
          go_wp2_with fail
          go_ret
          exact ⟨by rw [H.out]; rfl, rfl⟩

set_option maxHeartbeats 1000000 in
theorem rCompare_false_true (a b : ByteArray) (w : World) (ha : a.size ≤ 4294967296) (hb : b.size ≤ 4294967296) (hna : Num.sneg a.data.toList = false) (hnb : Num.sneg b.data.toList = true) :
    Calls Tryz.prog 73 #[.string a, .string b] w fun e w' => e = .returned (.int .i64 (cmp3 (vS a) (vS b))) ∧ w = w' := by
  have hma := lim_max ha
  have hmb := lim_max hb
  obtain ⟨X, hX, hXl, hXa, hXs⟩ := dig_str a
  obtain ⟨Y, hY, hYl, hYa, hYs⟩ := dig_str b
  have HDA := Lib.hid hX
  have HDB := Lib.hid hY
  have HNA := Lib.hid hna
  have HNB := Lib.hid hnb
  have H := Lib.hid ((cmp_signs hnb hna).2)
  clear hX hY hna hnb hXl hXa hYl hYa
  go_enter Tryz.func73, Tryz.ntmps73
  go_wp2_with fail
  refine (digits_any a w hma).mono ?_
  rintro e w' ⟨rfl, rfl⟩
  rw [← HDA.out, HNA.out]
  go_wp2_with fail
  refine (digits_any b w hmb).mono ?_
  rintro e w' ⟨rfl, rfl⟩
  rw [← HDB.out, HNB.out]
  go_wp2_with fail
  go_ret
  exact ⟨by rw [H.out]; rfl, rfl⟩

set_option maxHeartbeats 1000000 in
theorem rCompare_true_false (a b : ByteArray) (w : World) (ha : a.size ≤ 4294967296) (hb : b.size ≤ 4294967296) (hna : Num.sneg a.data.toList = true) (hnb : Num.sneg b.data.toList = false) :
    Calls Tryz.prog 73 #[.string a, .string b] w fun e w' => e = .returned (.int .i64 (cmp3 (vS a) (vS b))) ∧ w = w' := by
  have hma := lim_max ha
  have hmb := lim_max hb
  obtain ⟨X, hX, hXl, hXa, hXs⟩ := dig_str a
  obtain ⟨Y, hY, hYl, hYa, hYs⟩ := dig_str b
  have HDA := Lib.hid hX
  have HDB := Lib.hid hY
  have HNA := Lib.hid hna
  have HNB := Lib.hid hnb
  have H := Lib.hid ((cmp_signs hna hnb).1)
  clear hX hY hna hnb hXl hXa hYl hYa
  go_enter Tryz.func73, Tryz.ntmps73
  go_wp2_with fail
  refine (digits_any a w hma).mono ?_
  rintro e w' ⟨rfl, rfl⟩
  rw [← HDA.out, HNA.out]
  go_wp2_with fail
  refine (digits_any b w hmb).mono ?_
  rintro e w' ⟨rfl, rfl⟩
  rw [← HDB.out, HNB.out]
  go_wp2_with fail
  go_ret
  exact ⟨by rw [H.out]; rfl, rfl⟩

set_option maxHeartbeats 1000000 in
theorem rCompare_true_true (a b : ByteArray) (w : World) (ha : a.size ≤ 4294967296) (hb : b.size ≤ 4294967296) (hna : Num.sneg a.data.toList = true) (hnb : Num.sneg b.data.toList = true) :
    Calls Tryz.prog 73 #[.string a, .string b] w fun e w' => e = .returned (.int .i64 (cmp3 (vS a) (vS b))) ∧ w = w' := by
  have hma := lim_max ha
  have hmb := lim_max hb
  obtain ⟨X, hX, hXl, hXa, hXs⟩ := dig_str a
  obtain ⟨Y, hY, hYl, hYa, hYs⟩ := dig_str b
  have HDA := Lib.hid hX
  have HDB := Lib.hid hY
  have HNA := Lib.hid hna
  have HNB := Lib.hid hnb
  have hva := (vS_neg hna).1
  have hvb := (vS_neg hnb).1
  rw [← hXl] at hva
  rw [← hYl] at hvb
  have pa := Num.Plain.sdig a.data.toList
  have pb := Num.Plain.sdig b.data.toList
  rw [← hXl] at pa
  rw [← hYl] at pb
  have HVA := Lib.hid hva
  have HVB := Lib.hid hvb
  have HPA := Lib.hid pa
  have HPB := Lib.hid pb
  clear hX hY hna hnb hXl hXa hYl hYa hva hvb pa pb
  by_cases h1 : X.size < Y.size
  · have hc : cmp3 (vS a) (vS b) = 1 := by
      have := num_lt_of_length HPA.out HPB.out (by rw [size_toList, size_toList]; exact h1)
      rw [HVA.out, HVB.out]
      exact cmp3_gt (by omega)
    have H := Lib.hid hc
    have hq : ((X.size : Int) == (Y.size : Int)) = false := by rw [beq_eq_false_iff_ne]; omega
    clear hc
    go_enter Tryz.func73, Tryz.ntmps73
    go_wp2_with fail
    refine (digits_any a w hma).mono ?_
    rintro e w' ⟨rfl, rfl⟩
    rw [← HDA.out, HNA.out]
    go_wp2_with fail
    refine (digits_any b w hmb).mono ?_
    rintro e w' ⟨rfl, rfl⟩
    rw [← HDB.out, HNB.out]
    go_wp2_with fail
    go_ret
    exact ⟨by rw [H.out]; rfl, rfl⟩
  · by_cases h2 : Y.size < X.size
    · have hc : cmp3 (vS a) (vS b) = -1 := by
        have := num_lt_of_length HPB.out HPA.out (by rw [size_toList, size_toList]; exact h2)
        rw [HVA.out, HVB.out]
        exact cmp3_lt (by omega)
      have H := Lib.hid hc
      have hq : ((X.size : Int) == (Y.size : Int)) = false := by rw [beq_eq_false_iff_ne]; omega
      clear hc
      go_enter Tryz.func73, Tryz.ntmps73
      go_wp2_with fail
      refine (digits_any a w hma).mono ?_
      rintro e w' ⟨rfl, rfl⟩
      rw [← HDA.out, HNA.out]
      go_wp2_with fail
      refine (digits_any b w hmb).mono ?_
      rintro e w' ⟨rfl, rfl⟩
      rw [← HDB.out, HNB.out]
      go_wp2_with fail
      go_ret
      exact ⟨by rw [H.out]; rfl, rfl⟩
    · have hl : X.data.toList.length = Y.data.toList.length := by rw [size_toList, size_toList]; omega
      have hq : ((X.size : Int) == (Y.size : Int)) = true := by rw [beq_iff_eq]; omega
      have e1 := bytesLess_num _ _ HPA.out.1 HPB.out.1 hl
      have e2 := beq_num HPA.out.1 HPB.out.1 hl
      rw [← Lib.toList_data X, ← Lib.toList_data Y] at e1 e2
      by_cases h3 : Num.num X.data.toList < Num.num Y.data.toList
      · have hc : cmp3 (vS a) (vS b) = 1 := by
          rw [HVA.out, HVB.out]
          exact cmp3_gt (by omega)
        have H := Lib.hid hc
        rw [Lib.toList_data X, Lib.toList_data Y, decide_eq_true h3, ← Lib.toList_data X, ← Lib.toList_data Y] at e1
        clear hc e2 h1 h2 h3 hl
        go_enter Tryz.func73, Tryz.ntmps73
        go_wp2_with fail
        refine (digits_any a w hma).mono ?_
        rintro e w' ⟨rfl, rfl⟩
        rw [← HDA.out, HNA.out]
        go_wp2_with fail
        refine (digits_any b w hmb).mono ?_
        rintro e w' ⟨rfl, rfl⟩
        rw [← HDB.out, HNB.out]
        go_wp2_with fail
        go_ret
        exact ⟨by rw [H.out]; rfl, rfl⟩
      · by_cases h4 : Num.num Y.data.toList < Num.num X.data.toList
        · have hc : cmp3 (vS a) (vS b) = -1 := by
            rw [HVA.out, HVB.out]
            exact cmp3_lt (by omega)
          have H := Lib.hid hc
          rw [Lib.toList_data X, Lib.toList_data Y, decide_eq_false h3, ← Lib.toList_data X, ← Lib.toList_data Y] at e1
          rw [Lib.toList_data X, Lib.toList_data Y, decide_eq_false (by omega), ← Lib.toList_data X, ← Lib.toList_data Y] at e2
          clear hc h1 h2 h3 h4 hl
          go_enter Tryz.func73, Tryz.ntmps73
          go_wp2_with fail
          refine (digits_any a w hma).mono ?_
          rintro e w' ⟨rfl, rfl⟩
          rw [← HDA.out, HNA.out]
          go_wp2_with fail
          refine (digits_any b w hmb).mono ?_
          rintro e w' ⟨rfl, rfl⟩
          rw [← HDB.out, HNB.out]
          go_wp2_with fail
          go_ret
          exact ⟨by rw [H.out]; rfl, rfl⟩
        · have hc : cmp3 (vS a) (vS b) = 0 := by
            rw [HVA.out, HVB.out]
            exact cmp3_eq (by omega)
          have H := Lib.hid hc
          rw [Lib.toList_data X, Lib.toList_data Y, decide_eq_false h3, ← Lib.toList_data X, ← Lib.toList_data Y] at e1
          rw [Lib.toList_data X, Lib.toList_data Y, decide_eq_true (by omega), ← Lib.toList_data X, ← Lib.toList_data Y] at e2
          clear hc h1 h2 h3 h4 hl
          go_enter Tryz.func73, Tryz.ntmps73
          go_wp2_with fail
          refine (digits_any a w hma).mono ?_
          rintro e w' ⟨rfl, rfl⟩
          rw [← HDA.out, HNA.out]
          go_wp2_with fail
          refine (digits_any b w hmb).mono ?_
          rintro e w' ⟨rfl, rfl⟩
          rw [← HDB.out, HNB.out]
          go_wp2_with fail
          go_ret
          exact ⟨by rw [H.out]; rfl, rfl⟩

theorem rCompare_any (a b : ByteArray) (w : World) (ha : a.size ≤ 4294967296) (hb : b.size ≤ 4294967296) :
    Calls Tryz.prog 73 #[.string a, .string b] w fun e w' => e = .returned (.int .i64 (cmp3 (vS a) (vS b))) ∧ w = w' := by
  cases na : Num.sneg a.data.toList <;> cases nb : Num.sneg b.data.toList
  · exact rCompare_false_false a b w ha hb na nb
  · exact rCompare_false_true a b w ha hb na nb
  · exact rCompare_true_false a b w ha hb na nb
  · exact rCompare_true_true a b w ha hb na nb

end Go.Proofs.YthhihdihkddakaaGreatDoor

/- The reference implementation of layer 1: Add, Sub: walks. -/
namespace Go.Proofs.YthhihdihkddakaaGreatDoor
open Go.RowKit

theorem short_val {a : ByteArray} {m : Int} (h : shortV a = .tuple #[.int .i64 m, .bool true]) : m = vS a ∧ -100000000000000000 < m ∧ m < 100000000000000000 := by
  unfold shortV at h
  by_cases h17 : (Num.sdig a.data.toList).length ≤ 17
  · rw [if_pos h17] at h
    injection h with h
    have h2 : vS a = m := by
      have := congrArg (fun x : Array Value => x[0]?) h
      simp at this; exact this
    have h1 := Num.num_lt _ (Num.Plain.sdig a.data.toList).1
    have h3 := Nat.pow_le_pow_right (show 1 ≤ 10 by decide) h17
    have h4 : (vS a).natAbs = Num.mag a.data.toList := Num.natAbs_val _
    unfold Num.mag at h4
    omega
  · rw [if_neg h17] at h
    injection h with h
    have := congrArg (fun x : Array Value => x[1]?) h
    simp at this

set_option maxRecDepth 100000 in
set_option maxHeartbeats 4000000 in
theorem rAdd_long (a b : ByteArray) (w : World) (ha : a.size ≤ 1000) (hb : b.size ≤ 1000) (m p : Int) (is q : Bool) (hsa : shortV a = .tuple #[.int .i64 m, .bool is]) (hsb : shortV b = .tuple #[.int .i64 p, .bool q])
    (hway : is = false ∨ (is = true ∧ q = false)) :
    Calls Tryz.prog 59 #[.string a, .string b] w (StrPost w (vS a + vS b)) := by
  have HSA := Lib.hid hsa
  have HSB := Lib.hid hsb
  have hla := gS_length2 a ha
  have hlb := gS_length2 b hb
  have hva := vS_sg a
  have hvb := vS_sg b
  obtain ⟨na, hna⟩ : ∃ na, na = Num.sneg a.data.toList := ⟨_, rfl⟩
  obtain ⟨nb, hnb⟩ : ∃ nb, nb = Num.sneg b.data.toList := ⟨_, rfl⟩
  rw [← hna] at hva
  rw [← hnb] at hvb
  have HV := Lib.hid (show sg na (Num.gval (gS a)) + sg nb (Num.gval (gS b)) = vS a + vS b by rw [hva, hvb])
  have HNA := Lib.hid hna
  have HNB := Lib.hid hnb
  clear hsa hsb hva hvb hna hnb
  rcases hway with rfl | ⟨rfl, rfl⟩
  all_goals
    go_enter Tryz.func59, Tryz.ntmps59
    go_wp2_with fail
    refine (short_any a w (by omega)).mono ?_
    rintro e _ ⟨rfl, rfl⟩
    rw [HSA.out]
    go_wp2_with fail
    refine (short_any b w (by omega)).mono ?_
    rintro e _ ⟨rfl, rfl⟩
    rw [HSB.out]
    go_wp2_with fail
    refine (rRead_any a w ha).mono ?_
    rintro e w1 ⟨xa, cx, rfl, hrx, hB1⟩
    rw [← HNA.out]
    go_wp2_with fail
    refine (rRead_any b w1 hb).mono ?_
    rintro e w2 ⟨ya, cy, rfl, hry, hB2⟩
    rw [← HNB.out]
    have hrx2 := hrx.below hB2
    have hB : Below w.heap.size w w2 := hB1.trans (hB2.mono hB1.size)
    clear hB1 hB2 hrx
    go_wp2_with fail
    refine (rAdd_num na nb w2 xa ya cx cy _ _ (gS a) (gS b) rfl rfl hrx2 hry (gS_can a) (gS_can b) (by omega)).mono ?_
    rintro e w3 ⟨ng, va, vc, zs, rfl, hzc, hzv, hrd, hzl, hB3, _⟩
    have HZV := Lib.hid hzv
    have hB' := hB.trans (hB3.mono hB.size)
    clear hzv hrx2 hry
    go_wp2_with fail
    refine (rWrite_any ng w3 va vc _ zs rfl hrd hzc.1 (by omega)).mono ?_
    rintro e w4 ⟨rfl, hB4⟩
    go_wp2_with fail
    go_ret
    exact ⟨by rw [HZV.out, HV.out]; rfl, hB'.trans (hB4.mono hB'.size)⟩

set_option maxRecDepth 100000 in
set_option maxHeartbeats 4000000 in
theorem rAdd_short (a b : ByteArray) (w : World) (ha : a.size ≤ 1000) (hb : b.size ≤ 1000) (m p : Int) (hsa : shortV a = .tuple #[.int .i64 m, .bool true]) (hsb : shortV b = .tuple #[.int .i64 p, .bool true])
    (m0 : -100000000000000000 < m) (m1 : m < 100000000000000000) (p0 : -100000000000000000 < p) (p1 : p < 100000000000000000) :
    Calls Tryz.prog 59 #[.string a, .string b] w fun e w' => e = .returned (.string (cS (m + p))) ∧ w = w' := by
  have HSA := Lib.hid hsa
  have HSB := Lib.hid hsb
  clear hsa hsb
  go_enter Tryz.func59, Tryz.ntmps59
  go_wp2_with fail
  refine (short_any a w (by omega)).mono ?_
  rintro e _ ⟨rfl, rfl⟩
  rw [HSA.out]
  go_wp2_with fail
  refine (short_any b w (by omega)).mono ?_
  rintro e _ ⟨rfl, rfl⟩
  rw [HSB.out]
  go_wp2_with fail
  refine (rOf_any (m + p) w (by omega) (by omega)).mono ?_
  rintro e _ ⟨rfl, rfl⟩
  go_wp2_with fail
  go_ret
  exact ⟨rfl, rfl⟩

theorem rAdd_any (a b : ByteArray) (w : World) (ha : a.size ≤ 1000) (hb : b.size ≤ 1000) :
    Calls Tryz.prog 59 #[.string a, .string b] w (StrPost w (vS a + vS b)) := by
  rcases shortV_ways a with hsa | hsa
  · rcases shortV_ways b with hsb | hsb
    · obtain ⟨_, h1, h2⟩ := short_val hsa
      obtain ⟨_, h3, h4⟩ := short_val hsb
      exact (rAdd_short a b w ha hb _ _ hsa hsb h1 h2 h3 h4).mono fun e w' hh => ⟨hh.1, hh.2 ▸ Below.refl _ _⟩
    · exact rAdd_long a b w ha hb _ _ _ _ hsa hsb (.inr ⟨rfl, rfl⟩)
  · rcases shortV_ways b with hsb | hsb
    · exact rAdd_long a b w ha hb _ _ _ _ hsa hsb (.inl rfl)
    · exact rAdd_long a b w ha hb _ _ _ _ hsa hsb (.inl rfl)

set_option maxRecDepth 100000 in
set_option maxHeartbeats 2000000 in
theorem rSub_any (a b : ByteArray) (w : World) (ha : a.size ≤ 999) (hb : b.size ≤ 999) :
    Calls Tryz.prog 56 #[.string a, .string b] w (StrPost w (vS a - vS b)) := by
  have hn := cS_neg_size b
  go_enter Tryz.func56, Tryz.ntmps56
  go_wp2_with fail
  refine (rNeg_any b w (by omega)).mono ?_
  rintro e w1 ⟨rfl, rfl⟩
  go_wp2_with fail
  refine (rAdd_any a (cS (- vS b)) w (by omega) (by omega)).mono ?_
  rintro e w2 ⟨rfl, hB⟩
  go_wp2_with fail
  go_ret
  exact ⟨by rw [vS_cS]; rfl, hB⟩

end Go.Proofs.YthhihdihkddakaaGreatDoor

/- The plain mathematics of fractions: lowest terms. It imports nothing of the program. -/
namespace Go.Proofs.YthhihdihkddakaaGreatDoor.Fra

/-- numerator and denominator in lowest terms, for a positive denominator -/
def red (n d : Int) : Int × Int := (n / (Int.gcd n d : Int), d / (Int.gcd n d : Int))

theorem gcd_pos {n d : Int} (h : 0 < d) : (0 : Int) < (Int.gcd n d : Int) := by
  have : Int.gcd n d ≠ 0 := by
    intro e
    rw [Int.gcd_eq_zero_iff] at e
    omega
  omega
theorem red_left {n d : Int} : n = (red n d).1 * (Int.gcd n d : Int) := (Int.ediv_mul_cancel (Int.gcd_dvd_left _ _)).symm
theorem red_right {n d : Int} : d = (red n d).2 * (Int.gcd n d : Int) := (Int.ediv_mul_cancel (Int.gcd_dvd_right _ _)).symm
theorem red_pos {n d : Int} (h : 0 < d) : 0 < (red n d).2 := by
  have h1 := red_right (n := n) (d := d)
  have h2 := gcd_pos (n := n) h
  by_cases h3 : 0 < (red n d).2
  · exact h3
  · exfalso
    have := Int.mul_nonpos_of_nonpos_of_nonneg (show (red n d).2 ≤ 0 by omega) (show 0 ≤ (Int.gcd n d : Int) by omega)
    omega
theorem red_coprime {n d : Int} (h : 0 < d) : Int.gcd (red n d).1 (red n d).2 = 1 := by
  have h2 := gcd_pos (n := n) h
  have h3 : Int.gcd n d = Int.gcd (red n d).1 (red n d).2 * Int.gcd n d := by
    conv => lhs; rw [red_left (n := n) (d := d)]
    conv => lhs; arg 2; rw [red_right (n := n) (d := d)]
    rw [Int.gcd_mul_right]; simp
  have h4 : 0 < Int.gcd n d := by omega
  exact Nat.eq_of_mul_eq_mul_right h4 (by omega)
theorem red_cross {n d : Int} : (red n d).1 * d = n * (red n d).2 := by
  have h1 := red_left (n := n) (d := d)
  have h2 := red_right (n := n) (d := d)
  generalize (red n d).1 = p at *
  generalize (red n d).2 = q at *
  generalize (Int.gcd n d : Int) = g at *
  subst h1
  subst h2
  rw [Int.mul_comm q g, ← Int.mul_assoc]

theorem dvd_of_coprime {q p s : Int} (h : Int.gcd p q = 1) (hd : q ∣ p * s) : q ∣ s := by
  have h1 : q.natAbs ∣ p.natAbs * s.natAbs := by rw [← Int.natAbs_mul]; exact Int.natAbs_dvd_natAbs.2 hd
  have h2 : Nat.Coprime q.natAbs p.natAbs := by
    unfold Nat.Coprime
    rw [Nat.gcd_comm]; exact h
  exact Int.natAbs_dvd_natAbs.1 (Nat.Coprime.dvd_of_dvd_mul_left h2 h1)

/-- two pairs in lowest terms with one value are one pair -/
theorem lowest_unique {p q r s : Int} (hq : 0 < q) (hs : 0 < s) (h1 : Int.gcd p q = 1) (h2 : Int.gcd r s = 1) (h : p * s = r * q) : p = r ∧ q = s := by
  have a : q ∣ s := by
    have : q ∣ p * s := ⟨r, by rw [h, Int.mul_comm]⟩
    exact dvd_of_coprime h1 this
  have b : s ∣ q := by
    have : s ∣ r * q := ⟨p, by rw [← h, Int.mul_comm]⟩
    exact dvd_of_coprime h2 this
  have e : q = s := Int.dvd_antisymm (by omega) (by omega) a b
  subst e
  exact ⟨Int.eq_of_mul_eq_mul_right (by omega) h, rfl⟩

theorem red_eq {n d m e : Int} (hd : 0 < d) (he : 0 < e) (h : n * e = m * d) : red n d = red m e := by
  have := lowest_unique (red_pos hd) (red_pos he) (red_coprime hd) (red_coprime he) (by
    have h1 := red_cross (n := n) (d := d)
    have h2 := red_cross (n := m) (d := e)
    have h3 : ((red n d).1 * (red m e).2) * (d * e) = ((red m e).1 * (red n d).2) * (d * e) := by grind
    exact Int.eq_of_mul_eq_mul_right (by have := Int.mul_pos hd he; omega) h3)
  exact Prod.ext this.1 this.2
theorem red_lowest {p q : Int} (h : Int.gcd p q = 1) : red p q = (p, q) := by
  unfold red; rw [h]; simp
theorem red_zero {d : Int} (hd : 0 < d) : red 0 d = (0, 1) := by
  unfold red
  rw [Int.gcd_zero_left]
  have : ((d.natAbs : Nat) : Int) = d := by omega
  rw [this, Int.ediv_self (by omega)]; simp

end Go.Proofs.YthhihdihkddakaaGreatDoor.Fra

/- The plain mathematics of fractions: the four operations on pairs, their laws. It imports nothing of the program. -/
namespace Go.Proofs.YthhihdihkddakaaGreatDoor.Fra

def addP (x y : Int × Int) : Int × Int := red (x.1 * y.2 + y.1 * x.2) (x.2 * y.2)
def mulP (x y : Int × Int) : Int × Int := red (x.1 * y.1) (x.2 * y.2)
def negP (x : Int × Int) : Int × Int := red (-x.1) x.2
def low (x : Int × Int) : Int × Int := red x.1 x.2
theorem low_pos {x : Int × Int} (h : 0 < x.2) : 0 < (low x).2 := red_pos h
theorem low_cross (x : Int × Int) : (low x).1 * x.2 = x.1 * (low x).2 := red_cross
theorem addP_pos {x y : Int × Int} (hx : 0 < x.2) (hy : 0 < y.2) : 0 < (addP x y).2 := red_pos (Int.mul_pos hx hy)
theorem negP_pos {x : Int × Int} (hx : 0 < x.2) : 0 < (negP x).2 := red_pos hx

/-- pairs with one value -/
def Same (x y : Int × Int) : Prop := x.1 * y.2 = y.1 * x.2
theorem Same.low {x : Int × Int} : Same (low x) x := by unfold Same; rw [low_cross]
theorem same_red (n d : Int) : Same (red n d) (n, d) := red_cross
theorem low_eq {x y : Int × Int} (hx : 0 < x.2) (hy : 0 < y.2) (h : Same x y) : low x = low y := red_eq hx hy h
theorem addP_congr {x y z w : Int × Int} (hx : 0 < x.2) (hy : 0 < y.2) (hz : 0 < z.2) (hw : 0 < w.2) (h : Same x z) (k : Same y w) : addP x y = addP z w := by
  refine red_eq (Int.mul_pos hx hy) (Int.mul_pos hz hw) ?_
  unfold Same at h k
  grind
theorem negP_congr {x z : Int × Int} (hx : 0 < x.2) (hz : 0 < z.2) (h : Same x z) : negP x = negP z := by
  refine red_eq hx hz ?_
  unfold Same at h
  grind

end Go.Proofs.YthhihdihkddakaaGreatDoor.Fra

/- The plain mathematics of fractions: order, rounding down, powers. It imports nothing of the program but the word for an order. -/
namespace Go.Proofs.YthhihdihkddakaaGreatDoor.Fra

def cmpP (x y : Int × Int) : Int := cmp3 (x.1 * y.2) (y.1 * x.2)

theorem cmp3_sub (a b : Int) : cmp3 a b = cmp3 (a - b) 0 := by
  unfold cmp3
  by_cases h : a < b
  · rw [if_pos h, if_pos (by omega)]
  · by_cases h2 : b < a
    · rw [if_neg h, if_pos h2, if_neg (by omega), if_pos (by omega)]
    · rw [if_neg h, if_neg h2, if_neg (by omega), if_neg (by omega)]
theorem cmp3_scale0 {a k : Int} (hk : 0 < k) : cmp3 (a * k) 0 = cmp3 a 0 := by
  rcases Int.lt_trichotomy a 0 with h | h | h
  · rw [cmp3_lt h, cmp3_lt (Int.mul_neg_of_neg_of_pos h hk)]
  · subst h; simp
  · rw [cmp3_gt h, cmp3_gt (Int.mul_pos h hk)]
theorem cmp3_scale {a b k : Int} (hk : 0 < k) : cmp3 (a * k) (b * k) = cmp3 a b := by
  rw [cmp3_sub, ← Int.sub_mul, cmp3_scale0 hk, ← cmp3_sub]
theorem cmp3_zero (a b : Int) : cmp3 a b = 0 ↔ a = b := by unfold cmp3; split <;> (try split) <;> omega
theorem cmp3_pos (a b : Int) : 0 < cmp3 a b ↔ b < a := by unfold cmp3; split <;> (try split) <;> omega

theorem cmpP_congr {x y z w : Int × Int} (hx : 0 < x.2) (hy : 0 < y.2) (hz : 0 < z.2) (hw : 0 < w.2) (h : Same x z) (k : Same y w) : cmpP x y = cmpP z w := by
  unfold cmpP
  unfold Same at h k
  rw [← cmp3_scale (a := x.1 * y.2) (k := z.2 * w.2) (Int.mul_pos hz hw), ← cmp3_scale (a := z.1 * w.2) (k := x.2 * y.2) (Int.mul_pos hx hy)]
  rw [show x.1 * y.2 * (z.2 * w.2) = z.1 * w.2 * (x.2 * y.2) by grind, show y.1 * x.2 * (z.2 * w.2) = w.1 * z.2 * (x.2 * y.2) by grind]
/-- rounding down -/
theorem floor_bounds {n d : Int} (hd : 0 < d) : Int.fdiv n d * d ≤ n ∧ n < (Int.fdiv n d + 1) * d := by
  have h1 := Int.fmod_add_mul_fdiv n d
  have h2 := Int.fmod_nonneg_of_pos n hd
  have h3 := Int.fmod_lt_of_pos n hd
  rw [Int.mul_comm d] at h1
  rw [Int.add_mul]
  omega
theorem floor_unique {n d q : Int} (hd : 0 < d) (h1 : q * d ≤ n) (h2 : n < (q + 1) * d) : Int.fdiv n d = q := by
  obtain ⟨h3, h4⟩ := floor_bounds (n := n) hd
  have a : Int.fdiv n d < q + 1 := Int.lt_of_mul_lt_mul_right (a := d) (by omega) (by omega)
  have b : q < Int.fdiv n d + 1 := Int.lt_of_mul_lt_mul_right (a := d) (by omega) (by omega)
  omega
theorem floor_congr {x y : Int × Int} (hx : 0 < x.2) (hy : 0 < y.2) (h : Same x y) : Int.fdiv x.1 x.2 = Int.fdiv y.1 y.2 := by
  obtain ⟨h3, h4⟩ := floor_bounds (n := y.1) hy
  unfold Same at h
  apply floor_unique hx
  · have h5 := Int.mul_le_mul_of_nonneg_right h3 (Int.le_of_lt hx)
    rw [← h] at h5
    exact Int.le_of_mul_le_mul_right (a := y.2) (by rw [show Int.fdiv y.1 y.2 * x.2 * y.2 = Int.fdiv y.1 y.2 * y.2 * x.2 by grind]; exact h5) hy
  · have h5 := Int.mul_lt_mul_of_pos_right h4 hx
    rw [← h] at h5
    exact Int.lt_of_mul_lt_mul_right (a := y.2) (by rw [show (Int.fdiv y.1 y.2 + 1) * x.2 * y.2 = (Int.fdiv y.1 y.2 + 1) * y.2 * x.2 by grind]; exact h5) (by omega)
end Go.Proofs.YthhihdihkddakaaGreatDoor.Fra

/- The plain mathematics of fractions: quotients of any sign, powers with exponents of any sign. It imports nothing of the program. -/
namespace Go.Proofs.YthhihdihkddakaaGreatDoor.Fra

/-- n / d in lowest terms, for a d other than 0 -/
def redS (n d : Int) : Int × Int := if d < 0 then red (-n) (-d) else red n d

theorem redS_red {n d : Int} (hd : 0 < d) : redS n d = red n d := by unfold redS; rw [if_neg (by omega)]
end Go.Proofs.YthhihdihkddakaaGreatDoor.Fra

/- The value of a fraction's two strings, and the strings of a value: plain mathematics. -/
namespace Go.Proofs.YthhihdihkddakaaGreatDoor
open Go.RowKit Fra

/-- numerator and denominator as they are, with a positive denominator -/
def rawP (n d : Int) : Int × Int := if d = 0 then (n, 1) else if d < 0 then (-n, -d) else (n, d)
def raw (n d : ByteArray) : Int × Int := rawP (vS n) (vS d)
theorem rawP_pos (n d : Int) : 0 < (rawP n d).2 := by
  unfold rawP
  split
  · exact Int.one_pos
  · split
    · show 0 < -d; omega
    · show 0 < d; omega
theorem raw_pos (n d : ByteArray) : 0 < (raw n d).2 := rawP_pos _ _
theorem rawP_redS {n d : Int} (h : d ≠ 0) : low (rawP n d) = redS n d := by
  unfold rawP low redS; rw [if_neg h]; split <;> rfl
theorem rawP_zero (n : Int) : rawP n 0 = (n, 1) := rfl
theorem rawP_of_pos {n d : Int} (h : 0 < d) : rawP n d = (n, d) := by unfold rawP; rw [if_neg (by omega), if_neg (by omega)]
theorem rawP_of_neg {n d : Int} (h : d < 0) : rawP n d = (-n, -d) := by unfold rawP; rw [if_neg (by omega), if_pos h]

/-- in lowest terms, with a positive denominator -/
def Low (p : Int × Int) : Prop := 0 < p.2 ∧ Int.gcd p.1 p.2 = 1
theorem Low.of_red {n d : Int} (h : 0 < d) : Low (red n d) := ⟨red_pos h, red_coprime h⟩
theorem Low.of_addP {x y : Int × Int} (hx : 0 < x.2) (hy : 0 < y.2) : Low (addP x y) := Low.of_red (Int.mul_pos hx hy)
theorem Low.eq {p : Int × Int} (h : Low p) : low p = p := red_lowest h.2

/-- the canonical denominator -/
def cD (d : Int) : ByteArray := if d = 1 then ⟨#[]⟩ else cS d
theorem raw_can {p : Int × Int} (h : 0 < p.2) : raw (cS p.1) (cD p.2) = p := by
  unfold raw cD
  by_cases h1 : p.2 = 1
  · rw [if_pos h1, vS_cS, vS_nil, rawP_zero]; exact Prod.ext rfl h1.symm
  · rw [if_neg h1, vS_cS, vS_cS, rawP_of_pos h]
theorem cD_one : cD 1 = ⟨#[]⟩ := by unfold cD; rw [if_pos rfl]
theorem can_inj {p q : Int × Int} (hp : 0 < p.2) (hq : 0 < q.2) (h1 : cS p.1 = cS q.1) (h2 : cD p.2 = cD q.2) : p = q := by
  rw [← raw_can hp, ← raw_can hq, h1, h2]

/-! ### Digits -/
theorem Cap.one {k : Nat} (h : 1 ≤ k) : Cap k 1 := by
  unfold Cap
  have := Nat.pow_le_pow_right (show 0 < 10 by decide) h
  show 1 < 10 ^ k
  omega
def CapP (k : Nat) (p : Int × Int) : Prop := Cap k p.1 ∧ Cap k p.2
theorem CapP.mono {k l : Nat} {p : Int × Int} (h : CapP k p) (hkl : k ≤ l) : CapP l p := ⟨h.1.mono hkl, h.2.mono hkl⟩
theorem Cap.factor {k : Nat} {n r g : Int} (h : Cap k n) (hr : n = r * g) (hg : 0 < g) : Cap k r := by
  unfold Cap at *
  have : n.natAbs = r.natAbs * g.natAbs := by rw [hr, Int.natAbs_mul]
  have h2 : r.natAbs * 1 ≤ r.natAbs * g.natAbs := Nat.mul_le_mul_left _ (by omega)
  omega
theorem CapP.of_red {k : Nat} {n d : Int} (hd : 0 < d) (h1 : Cap k n) (h2 : Cap k d) : CapP k (red n d) :=
  ⟨h1.factor red_left (gcd_pos hd), h2.factor red_right (gcd_pos hd)⟩
theorem CapP.of_raw {k : Nat} {n d : ByteArray} (hk : 1 ≤ k) (h1 : n.size ≤ k) (h2 : d.size ≤ k) : CapP k (raw n d) := by
  have c1 : Cap k (vS n) := Cap.of h1 rfl
  have c2 : Cap k (vS d) := Cap.of h2 rfl
  unfold raw rawP
  split
  · exact ⟨c1, Cap.one hk⟩
  · split
    · exact ⟨c1.neg, c2.neg⟩
    · exact ⟨c1, c2⟩
theorem CapP.low {k : Nat} {x : Int × Int} (h : CapP k x) (hx : 0 < x.2) : CapP k (low x) := CapP.of_red hx h.1 h.2
theorem CapP.add {k l : Nat} {x y : Int × Int} (h : CapP k x) (g : CapP l y) (hx : 0 < x.2) (hy : 0 < y.2) : CapP (k + l + 1) (addP x y) := by
  refine CapP.of_red (Int.mul_pos hx hy) (Cap.add (h.1.mul g.2) ?_) ((h.2.mul g.2).mono (by omega))
  have := g.1.mul h.2
  rwa [Nat.add_comm] at this
theorem CapP.mul {k l : Nat} {x y : Int × Int} (h : CapP k x) (g : CapP l y) (hx : 0 < x.2) (hy : 0 < y.2) : CapP (k + l) (mulP x y) :=
  CapP.of_red (Int.mul_pos hx hy) (h.1.mul g.1) (h.2.mul g.2)
theorem CapP.neg {k : Nat} {x : Int × Int} (h : CapP k x) (hx : 0 < x.2) : CapP k (negP x) := CapP.of_red hx h.1.neg h.2
theorem CapP.redS {k : Nat} {n d : Int} (h1 : Cap k n) (h2 : Cap k d) (h0 : d ≠ 0) : CapP k (redS n d) := by
  unfold Fra.redS
  split
  · exact CapP.of_red (by omega) h1.neg h2.neg
  · exact CapP.of_red (by omega) h1 h2

/-- what a function is told of a fraction that it is handed -/
def Arg (n d : ByteArray) (x : Int × Int) : Prop := raw n d = x ∧ n.size ≤ 100000 ∧ d.size ≤ 100000
theorem Arg.pos {n d : ByteArray} {x : Int × Int} (h : Arg n d x) : 0 < x.2 := by rw [← h.1]; exact raw_pos _ _
theorem Arg.cap {n d : ByteArray} {x : Int × Int} (h : Arg n d x) : CapP 100000 x := by rw [← h.1]; exact CapP.of_raw (by decide) h.2.1 h.2.2
theorem cD_size {k : Nat} {z : Int} (h : Cap k z) : (cD z).size ≤ k + 1 := by
  unfold cD
  split
  · exact Nat.zero_le _
  · exact cS_size h
theorem Arg.of {k : Nat} {p : Int × Int} (h : CapP k p) (hp : 0 < p.2) (hk : k ≤ 99999) : Arg (cS p.1) (cD p.2) p :=
  ⟨raw_can hp, by have := cS_size h.1; omega, by have := cD_size h.2; omega⟩
theorem Arg.given {n d : ByteArray} {x : Int × Int} (h : raw n d = x) (h1 : n.size ≤ 60) (h2 : d.size ≤ 60) : Arg n d x := ⟨h, by omega, by omega⟩
theorem Arg.zero : Arg ⟨#[]⟩ ⟨#[]⟩ (0, 1) := ⟨by decide +kernel, by decide, by decide⟩

/-- the difference -/
def subP (x y : Int × Int) : Int × Int := red (x.1 * y.2 + -y.1 * x.2) (x.2 * y.2)
theorem subP_eq {x y : Int × Int} (hx : 0 < x.2) (hy : 0 < y.2) : subP x y = addP x (negP y) := by
  rw [addP_congr hx (negP_pos hy) (z := x) (w := (-y.1, y.2)) hx hy rfl (same_red _ _)]; rfl
/-- the quotient, by a value that is not 0 -/
def quoP (x y : Int × Int) : Int × Int := redS (x.1 * y.2) (x.2 * y.1)
/-- returns this fraction, and nothing that was there has changed -/
def FPost (w : World) (p : Int × Int) (e : Ending) (w' : World) : Prop := e = .returned (.agg #[.string (cS p.1), .string (cD p.2)]) ∧ Below w.heap.size w w'
/-- returns two strings with these values -/
def RatPost (w : World) (p : Int × Int) (k : Nat) (e : Ending) (w' : World) : Prop :=
  ∃ a b, e = .returned (.agg #[.string a, .string b]) ∧ vS a = p.1 ∧ vS b = p.2 ∧ a.size ≤ k ∧ b.size ≤ k ∧ Below w.heap.size w w'

end Go.Proofs.YthhihdihkddakaaGreatDoor

/- The program's layer 2: isZero, whole, quotient, value, lowest, pack, canonical: the walks. -/
namespace Go.Proofs.YthhihdihkddakaaGreatDoor
open Go.RowKit Fra

theorem eq_nil (z : Int) : (cS z).toList.isEmpty = decide (z = 0) := by
  have e : (cS z).toList.isEmpty = ((cS z).toList == (ByteArray.mk #[]).toList) := by
    rw [show (ByteArray.mk #[]).toList = [] by decide +kernel]
    cases (cS z).toList <;> rfl
  rw [e, beq_toList]
  by_cases h : z = 0
  · subst h; decide +kernel
  · rw [decide_eq_false h, decide_eq_false_iff_not]
    exact fun e => h (cS_inj (e.trans cS_zero.symm))
theorem eq_one (z : Int) : ((cS z).toList == [49]) = decide (z = 1) := by
  rw [show [49] = (ByteArray.mk #[49]).toList by decide +kernel, beq_toList]
  by_cases h : z = 1
  · subst h; decide +kernel
  · rw [decide_eq_false h, decide_eq_false_iff_not]
    exact fun e => h (cS_inj (e.trans cS_one.symm))

set_option maxHeartbeats 400000 in
theorem fZero_any (s : ByteArray) (w : World) (hs : s.size ≤ 4294967296) :
    Calls Tryz.prog 91 #[.string s] w fun e w' => e = .returned (.bool (decide (vS s = 0))) ∧ w = w' := by
  have HZ := Lib.hid (eq_nil (vS s))
  go_enter Tryz.func91, Tryz.ntmps91
  go_wp2_with fail
  refine (canonical_any s w hs).mono ?_
  rintro e _ ⟨rfl, rfl⟩
  go_wp2_with fail
  go_ret
  exact ⟨by rw [← HZ.out]; rfl, rfl⟩

/-- two strings lie in block b -/
def PairAt (w : World) (b : Nat) (t : TypeId) (u v : ByteArray) : Prop := w.heap[b]? = some (.cells #[.string u, .string v] t (0, 0))
theorem PairAt.cells {w : World} {b : Nat} {t : TypeId} {u v : ByteArray} (h : PairAt w b t u v) : w.cell? ⟨b, 0, none⟩ = some (.string u) ∧ w.cell? ⟨b, 1, none⟩ = some (.string v) ∧ w.frozen? ⟨b, 0, none⟩ = false ∧ w.frozen? ⟨b, 1, none⟩ = false := by
  unfold PairAt at h
  exact ⟨by rw [cell_of_row w b 0 _ _ _ h]; rfl, by rw [cell_of_row w b 1 _ _ _ h]; rfl, frozen_of_row w b 0 _ _ h, frozen_of_row w b 1 _ _ h⟩
theorem PairAt.lt {w : World} {b : Nat} {t : TypeId} {u v : ByteArray} (h : PairAt w b t u v) : b < w.heap.size := by
  unfold PairAt at h
  rcases Nat.lt_or_ge b w.heap.size with h' | h'
  · exact h'
  · rw [Array.getElem?_eq_none h'] at h; simp at h
theorem PairAt.below {w w' : World} {b : Nat} {t : TypeId} {u v : ByteArray} (h : PairAt w b t u v) (hb : Below w.heap.size w w') : PairAt w' b t u v := by
  have hl := h.lt
  unfold PairAt at *; rw [hb.block b hl]; exact h
theorem PairAt.made (w : World) (t : TypeId) (u v : ByteArray) : PairAt (w.alloc (.cells #[.string u, .string v] t)) w.heap.size t u v := heap_alloc_new w _
theorem PairAt.alloc {w : World} {b : Nat} {t : TypeId} {u v : ByteArray} (h : PairAt w b t u v) (o : Obj) : PairAt (w.alloc o) b t u v := h.below ((Below.refl _ _).alloc (Nat.le_refl _) _)

theorem PairAt.put {W : World} {b : Nat} {t : TypeId} {x y : ByteArray} (h : PairAt W b t x y) (u v : ByteArray) : PairAt ((W.setCell ⟨b, 0, none⟩ (.string u)).setCell ⟨b, 1, none⟩ (.string v)) b t u v := by
  have h1 := heap_setCell_same W b 0 _ _ (.string u) h
  have h2 := heap_setCell_same (W.setCell ⟨b, 0, none⟩ (.string u)) b 1 _ _ (.string v) h1
  unfold PairAt; rw [h2]; rfl
/-- a box, and the variable of a result -/
structure Box1 (W : World) (B : Nat) (s t : TypeId) (a b : ByteArray) : Prop where
  x : PairAt W B s a b
  r : PairAt W (B + 1) t ⟨#[]⟩ ⟨#[]⟩
theorem Box1.below {W W' : World} {B : Nat} {s t : TypeId} {a b : ByteArray} (h : Box1 W B s t a b) (hb : Below W.heap.size W W') : Box1 W' B s t a b := ⟨h.x.below hb, h.r.below hb⟩
theorem Box1.made (w : World) (s t : TypeId) (a b : ByteArray) : Box1 ((w.alloc (.cells #[.string a, .string b] s)).alloc (.cells #[.string ⟨#[]⟩, .string ⟨#[]⟩] t)) w.heap.size s t a b := by
  refine ⟨(PairAt.made w s a b).alloc _, ?_⟩
  have := PairAt.made (w.alloc (.cells #[.string a, .string b] s)) t ⟨#[]⟩ ⟨#[]⟩
  simpa using this
theorem below_two (w : World) (o p : Obj) : Below w.heap.size w ((w.alloc o).alloc p) := ((Below.refl _ _).alloc (Nat.le_refl _) _).alloc (by simp) _
theorem below_put {w W : World} {b : Nat} (h : Below w.heap.size w W) (hb : w.heap.size ≤ b) (u v : Value) : Below w.heap.size w ((W.setCell ⟨b, 0, none⟩ u).setCell ⟨b, 1, none⟩ v) :=
  (h.setCell (p := ⟨b, 0, none⟩) hb _).setCell (p := ⟨b, 1, none⟩) hb _

set_option maxHeartbeats 400000 in
theorem fWhole_any (s : ByteArray) (w : World) :
    Calls Tryz.prog 94 #[.string s] w fun e w' => e = .returned (.agg #[.string s, .string ⟨#[49]⟩]) ∧ Below w.heap.size w w' := by
  go_enter Tryz.func94, Tryz.ntmps94
  go_wp2_with fail
  exact bodyPost_ret (v := .agg #[.string s, .string ⟨#[49]⟩]) (by simp [results, Tryz.results94, go_sem]) rfl ⟨rfl, (Below.refl _ w).alloc (Nat.le_refl _) _⟩

set_option maxRecDepth 100000 in
set_option maxHeartbeats 1000000 in
theorem fQuotient_any (n d : ByteArray) (w : World) (k : Nat) (hn : n.size + 1 ≤ k) (hd : d.size + 1 ≤ k) (hk : k ≤ 4294967295) (h0 : vS d ≠ 0) :
    Calls Tryz.prog 146 #[.string n, .string d] w (RatPost w (rawP (vS n) (vS d)) k) := by
  obtain ⟨W0, hW0⟩ : ∃ W0, W0 = w.alloc (.cells #[.string ⟨#[]⟩, .string ⟨#[]⟩] 97) := ⟨_, rfl⟩
  have hB0 : Below w.heap.size w W0 := by rw [hW0]; exact (Below.refl _ w).alloc (Nat.le_refl _) _
  have hP : PairAt W0 w.heap.size 97 ⟨#[]⟩ ⟨#[]⟩ := by rw [hW0]; exact PairAt.made _ _ _ _
  by_cases hl : vS d < 0
  · obtain ⟨e, he⟩ : ∃ e, e = cS (-vS n) := ⟨_, rfl⟩
    obtain ⟨g, hg⟩ : ∃ g, g = cS (-vS d) := ⟨_, rfl⟩
    have s1 : e.size ≤ k := by rw [he]; have := cS_size (z := -vS n) (k := n.size) (by rw [Int.natAbs_neg]; exact vS_lt n); omega
    have s2 : g.size ≤ k := by rw [hg]; have := cS_size (z := -vS d) (k := d.size) (by rw [Int.natAbs_neg]; exact vS_lt d); omega
    have HF := Lib.hid (show vS e = -vS n ∧ vS g = -vS d by rw [he, hg, vS_cS, vS_cS]; exact ⟨rfl, rfl⟩)
    have HE := Lib.hid he
    have HH := Lib.hid hg
    have HC := Lib.hid (cmp3_lt hl)
    have HR := Lib.hid (rawP_of_neg (n := vS n) hl)
    clear he hg
    go_enter Tryz.func146, Tryz.ntmps146
    go_wp2_with fail
    rw [← hW0]
    clear hW0
    refine (compare_v (x := vS d) (y := 0) (z := -1) _ (by omega) (by decide) rfl vS_nil HC.out).mono ?_
    rintro _ w1 ⟨rfl, hB1⟩
    have hB := hB0.trans (hB1.mono hB0.size)
    have hP1 := hP.below hB1
    obtain ⟨c1, c2, c3, c4⟩ := hP1.cells
    clear hB1 hB0
    go_wp2_with fail
    refine (neg_any n _ (by omega)).mono ?_
    rintro _ _ ⟨rfl, rfl⟩
    rw [← HE.out]
    go_wp2_with fail
    refine (neg_any d _ (by omega)).mono ?_
    rintro _ _ ⟨rfl, rfl⟩
    rw [← HH.out]
    go_wp2_with fail
    obtain ⟨k0, k1, _, _⟩ := (hP1.put e g).cells
    exact bodyPost_ret (v := .agg #[.string e, .string g]) (by simp [results, Tryz.results146, go_sem, k0, k1]) rfl ⟨e, g, rfl, by rw [HR.out]; exact HF.out.1, by rw [HR.out]; exact HF.out.2, s1, s2, below_put hB (Nat.le_refl _) _ _⟩
  · have HC := Lib.hid (cmp3_gt (show (0 : Int) < vS d by omega))
    have HR := Lib.hid (rawP_of_pos (n := vS n) (show (0 : Int) < vS d by omega))
    clear hl h0
    go_enter Tryz.func146, Tryz.ntmps146
    go_wp2_with fail
    rw [← hW0]
    clear hW0
    refine (compare_v (x := vS d) (y := 0) (z := 1) _ (by omega) (by decide) rfl vS_nil HC.out).mono ?_
    rintro _ w1 ⟨rfl, hB1⟩
    have hB := hB0.trans (hB1.mono hB0.size)
    have hP1 := hP.below hB1
    obtain ⟨c1, c2, c3, c4⟩ := hP1.cells
    clear hB1 hB0
    go_wp2_with fail
    obtain ⟨k0, k1, _, _⟩ := (hP1.put n d).cells
    exact bodyPost_ret (v := .agg #[.string n, .string d]) (by simp [results, Tryz.results146, go_sem, k0, k1]) rfl ⟨n, d, rfl, by rw [HR.out], by rw [HR.out], by omega, by omega, below_put hB (Nat.le_refl _) _ _⟩

end Go.Proofs.YthhihdihkddakaaGreatDoor

/- The program's layer 2: value, lowest, pack, canonical: the walks. -/
namespace Go.Proofs.YthhihdihkddakaaGreatDoor
open Go.RowKit Fra

theorem RatPost.weaken {w w0 : World} {p : Int × Int} {k : Nat} {a b : ByteArray} (h1 : vS a = p.1) (h2 : vS b = p.2) (h3 : a.size ≤ k) (h4 : b.size ≤ k) (hb : Below w.heap.size w w0) :
    RatPost w p k (.returned (.agg #[.string a, .string b])) w0 := ⟨a, b, rfl, h1, h2, h3, h4, hb⟩

set_option maxRecDepth 100000 in
set_option maxHeartbeats 1000000 in
theorem fValue_any (n d : ByteArray) (w : World) (k : Nat) (hn : n.size + 1 ≤ k) (hd : d.size + 1 ≤ k) (hk : k ≤ 4294967295) :
    Calls Tryz.prog 97 #[.agg #[.string n, .string d]] w (RatPost w (raw n d) k) := by
  obtain ⟨W0, hW0⟩ : ∃ W0, W0 = (w.alloc (.cells #[.string n, .string d] 36)).alloc (.cells #[.string ⟨#[]⟩, .string ⟨#[]⟩] 97) := ⟨_, rfl⟩
  have hB0 : Below w.heap.size w W0 := by rw [hW0]; exact below_two _ _ _
  have hX : Box1 W0 w.heap.size 36 97 n d := by rw [hW0]; exact Box1.made _ _ _ _ _
  obtain ⟨c1, c2, _, _⟩ := hX.x.cells
  by_cases h0 : vS d = 0
  · have HR := Lib.hid (show raw n d = (vS n, 1) by unfold raw; rw [h0]; rfl)
    have HD := Lib.hid (decide_eq_true h0)
    clear h0
    go_enter Tryz.func97, Tryz.ntmps97
    go_wp2_with fail
    rw [← hW0]
    clear hW0
    refine (fZero_any d _ (by omega)).mono ?_
    rintro _ _ ⟨rfl, rfl⟩
    rw [HD.out]
    go_wp2_with fail
    refine (fWhole_any n _).mono ?_
    rintro _ w1 ⟨rfl, hB1⟩
    have hX1 := hX.below hB1
    obtain ⟨_, _, f1, f2⟩ := hX1.r.cells
    obtain ⟨g1, g2, _, _⟩ := hX1.r.cells
    have hB := hB0.trans (hB1.mono hB0.size)
    clear hB1 hB0
    go_wp2_with fail
    obtain ⟨k0, k1, _, _⟩ := (hX1.r.put n ⟨#[49]⟩).cells
    exact bodyPost_ret (v := .agg #[.string n, .string ⟨#[49]⟩]) (by simp [results, Tryz.results97, go_sem, k0, k1]) rfl (RatPost.weaken (by rw [HR.out]) (by rw [HR.out]; exact vS_one) (by omega) (by show 1 ≤ k; omega) (below_put hB (by omega) _ _))
  · have HD := Lib.hid (decide_eq_false h0)
    have H0 := Lib.hid h0
    clear h0
    go_enter Tryz.func97, Tryz.ntmps97
    go_wp2_with fail
    rw [← hW0]
    clear hW0
    refine (fZero_any d _ (by omega)).mono ?_
    rintro _ _ ⟨rfl, rfl⟩
    rw [HD.out]
    go_wp2_with fail
    refine (fQuotient_any n d _ k hn hd hk H0.out).mono ?_
    rintro _ w1 ⟨a, b, rfl, v1, v2, s1, s2, hB1⟩
    have HV1 := Lib.hid v1
    have HV2 := Lib.hid v2
    have hX1 := hX.below hB1
    obtain ⟨_, _, f1, f2⟩ := hX1.r.cells
    obtain ⟨g1, g2, _, _⟩ := hX1.r.cells
    have hB := hB0.trans (hB1.mono hB0.size)
    clear hB1 hB0 v1 v2
    go_wp2_with fail
    obtain ⟨k0, k1, _, _⟩ := (hX1.r.put a b).cells
    exact bodyPost_ret (v := .agg #[.string a, .string b]) (by simp [results, Tryz.results97, go_sem, k0, k1]) rfl (RatPost.weaken HV1.out HV2.out s1 s2 (below_put hB (by omega) _ _))

theorem ediv_fdiv {a g : Int} (h : 0 < g) : Int.fdiv a g = a / g := Int.fdiv_eq_ediv_of_nonneg a (by omega)

set_option maxRecDepth 100000 in
set_option maxHeartbeats 1000000 in
theorem fLowest_v {a b : ByteArray} {x y : Int} (w : World) (hG : Ground w) (ha : a.size ≤ 4294967294) (hb : b.size ≤ 4294967294) (hx : vS a = x) (hy : vS b = y) (h0 : 0 < y) :
    Calls Tryz.prog 141 #[.agg #[.string a, .string b]] w fun e w' => e = .returned (.agg #[.string (cS (red x y).1), .string (cS (red x y).2)]) ∧ Below w.heap.size w w' := by
  obtain ⟨W0, hW0⟩ : ∃ W0, W0 = (w.alloc (.cells #[.string a, .string b] 97)).alloc (.cells #[.string ⟨#[]⟩, .string ⟨#[]⟩] 97) := ⟨_, rfl⟩
  have hB0 : Below w.heap.size w W0 := by rw [hW0]; exact below_two _ _ _
  have hX : Box1 W0 w.heap.size 97 97 a b := by rw [hW0]; exact Box1.made _ _ _ _ _
  obtain ⟨c1, c2, _, _⟩ := hX.x.cells
  have hg := gcd_pos (n := x) h0
  have hgs : (cS (Int.gcd x y : Int)).size ≤ 4294967295 := by
    have h1 : Int.gcd x y ≤ y.natAbs := Int.gcd_le_natAbs_right x (by omega)
    have h2 := vS_lt b
    rw [hy] at h2
    have := cS_size (z := (Int.gcd x y : Int)) (k := b.size) (by omega)
    omega
  have HX := Lib.hid hx
  have HY := Lib.hid hy
  have HG := Lib.hid hg
  have HS := Lib.hid hgs
  clear hx hy hg hgs h0
  go_enter Tryz.func141, Tryz.ntmps141
  go_wp2_with fail
  rw [← hW0]
  clear hW0
  refine (gcd_v (x := x) (y := y) _ (hG.below hB0) (by omega) (by omega) HX.out HY.out rfl).mono ?_
  rintro _ w1 ⟨rfl, hB1⟩
  have hX1 := hX.below hB1
  have hB := hB0.trans (hB1.mono hB0.size)
  obtain ⟨d1, d2, _, _⟩ := hX1.x.cells
  clear hB1 hB0 c1 c2
  go_wp2_with fail
  refine (div_v (x := x) (y := (Int.gcd x y : Int)) (q := (red x y).1) _ (hG.below hB) (by omega) HS.out HX.out (vS_cS _) (by have := HG.out; omega) (ediv_fdiv HG.out) rfl).mono ?_
  rintro _ w2 ⟨rfl, hB2⟩
  have hX2 := hX1.below hB2
  have hB' := hB.trans (hB2.mono hB.size)
  obtain ⟨e1, e2, _, _⟩ := hX2.x.cells
  clear hB2 hB d1 d2
  go_wp2_with fail
  refine (div_v (x := y) (y := (Int.gcd x y : Int)) (q := (red x y).2) _ (hG.below hB') (by omega) HS.out HY.out (vS_cS _) (by have := HG.out; omega) (ediv_fdiv HG.out) rfl).mono ?_
  rintro _ w3 ⟨rfl, hB3⟩
  have hX3 := hX2.below hB3
  have hB := hB'.trans (hB3.mono hB'.size)
  obtain ⟨f1, f2, f3, f4⟩ := hX3.r.cells
  clear hB3 hB' e1 e2
  go_wp2_with fail
  obtain ⟨k0, k1, _, _⟩ := (hX3.r.put (cS (red x y).1) (cS (red x y).2)).cells
  exact bodyPost_ret (v := .agg #[.string (cS (red x y).1), .string (cS (red x y).2)]) (by simp [results, Tryz.results141, go_sem, k0, k1]) rfl ⟨rfl, below_put hB (by omega) _ _⟩

set_option maxRecDepth 100000 in
set_option maxHeartbeats 1000000 in
theorem fPack_any (p : Int × Int) (w : World) :
    Calls Tryz.prog 140 #[.agg #[.string (cS p.1), .string (cS p.2)]] w (FPost w p) := by
  obtain ⟨n, hn⟩ : ∃ n, n = cS p.1 := ⟨_, rfl⟩
  by_cases h0 : p.2 = 1
  · have HD := Lib.hid (show cD p.2 = ⟨#[]⟩ by rw [h0, cD_one])
    rw [show cS p.2 = ⟨#[49]⟩ by rw [h0, cS_one], ← hn]
    have HN := Lib.hid hn
    clear h0 hn
    go_enter Tryz.func140, Tryz.ntmps140
    go_wp2_with fail
    exact bodyPost_ret (v := .agg #[.string n, .string ⟨#[]⟩]) (by simp [results, Tryz.results140, go_sem]) rfl ⟨by rw [HD.out, ← HN.out], below_two _ _ _⟩
  · have HD := Lib.hid (show cD p.2 = cS p.2 by unfold cD; rw [if_neg h0])
    have h1 : ((cS p.2).toList == [49]) = false := by rw [eq_one]; exact decide_eq_false h0
    obtain ⟨m, hm⟩ : ∃ m, m = cS p.2 := ⟨_, rfl⟩
    rw [← hm] at h1
    rw [← hn, ← hm]
    have HN := Lib.hid hn
    have HM := Lib.hid hm
    clear h0 hn hm
    go_enter Tryz.func140, Tryz.ntmps140
    go_wp2_with fail
    exact bodyPost_ret (v := .agg #[.string n, .string m]) (by simp [results, Tryz.results140, go_sem]) rfl ⟨by rw [HD.out, ← HN.out, ← HM.out], below_two _ _ _⟩

set_option maxRecDepth 100000 in
set_option maxHeartbeats 1000000 in
theorem fCanonical_v {a b : ByteArray} {x y : Int} (w : World) (hG : Ground w) (ha : a.size ≤ 4294967294) (hb : b.size ≤ 4294967294) (hx : vS a = x) (hy : vS b = y) (h0 : 0 < y) :
    Calls Tryz.prog 92 #[.agg #[.string a, .string b]] w (FPost w (red x y)) := by
  obtain ⟨W0, hW0⟩ : ∃ W0, W0 = (w.alloc (.cells #[.string a, .string b] 97)).alloc (.cells #[.string ⟨#[]⟩, .string ⟨#[]⟩] 36) := ⟨_, rfl⟩
  have hB0 : Below w.heap.size w W0 := by rw [hW0]; exact below_two _ _ _
  have hX : Box1 W0 w.heap.size 97 36 a b := by rw [hW0]; exact Box1.made _ _ _ _ _
  obtain ⟨c1, c2, _, _⟩ := hX.x.cells
  have HX := Lib.hid hx
  have HY := Lib.hid hy
  have H0 := Lib.hid h0
  clear hx hy h0
  go_enter Tryz.func92, Tryz.ntmps92
  go_wp2_with fail
  rw [← hW0]
  clear hW0
  refine (fLowest_v _ (hG.below hB0) ha hb HX.out HY.out H0.out).mono ?_
  rintro _ w1 ⟨rfl, hB1⟩
  have hX1 := hX.below hB1
  have hB := hB0.trans (hB1.mono hB0.size)
  clear hB1 hB0 c1 c2
  go_wp2_with fail
  refine (fPack_any _ w1).mono ?_
  rintro _ w2 ⟨rfl, hB2⟩
  have hX2 := hX1.below hB2
  have hB' := hB.trans (hB2.mono hB.size)
  obtain ⟨f1, f2, f3, f4⟩ := hX2.r.cells
  clear hB2 hB
  go_wp2_with fail
  obtain ⟨k0, k1, _, _⟩ := (hX2.r.put (cS (red x y).1) (cD (red x y).2)).cells
  exact bodyPost_ret (v := .agg #[.string (cS (red x y).1), .string (cD (red x y).2)]) (by simp [results, Tryz.results92, go_sem, k0, k1]) rfl ⟨rfl, below_put hB' (by omega) _ _⟩

end Go.Proofs.YthhihdihkddakaaGreatDoor

/- The program's layer 2: add, subtract, multiply, divide: the walks. -/
namespace Go.Proofs.YthhihdihkddakaaGreatDoor
open Go.RowKit Fra

/-- two boxes, and the variable of a result, behind some calls -/
structure St2 (w W : World) (s t : TypeId) (a b c d : ByteArray) : Prop where
  g : Ground W
  x : PairAt W w.heap.size s a b
  y : PairAt W (w.heap.size + 1) s c d
  r : PairAt W (w.heap.size + 1 + 1) t ⟨#[]⟩ ⟨#[]⟩
  below : Below w.heap.size w W
theorem St2.next {w W W1 : World} {s t : TypeId} {a b c d : ByteArray} (h : St2 w W s t a b c d) (hb : Below W.heap.size W W1) : St2 w W1 s t a b c d :=
  ⟨h.g.below hb, h.x.below hb, h.y.below hb, h.r.below hb, h.below.trans (hb.mono h.below.size)⟩
theorem St2.drewN {w W : World} {s t : TypeId} {a b c d : ByteArray} (h : St2 w W s t a b c d) (q : Nat) : St2 w (W.drewN q) s t a b c d :=
  ⟨(h.g.drewN q), h.x, h.y, h.r, below_drewN h.below q⟩
theorem St2.drew {w W : World} {s t : TypeId} {a b c d : ByteArray} (h : St2 w W s t a b c d) : St2 w W.drew s t a b c d := h.drewN 1
theorem St2.next1 {w W W1 : World} {s t : TypeId} {a b c d : ByteArray} (h : St2 w W s t a b c d) (hb : Below W.drew.heap.size W.drew W1) : St2 w W1 s t a b c d := h.drew.next hb
theorem St2.nextD {w W W1 : World} {s t : TypeId} {a b c d : ByteArray} {q : Nat} (h : St2 w W s t a b c d) (hb : Below (W.drewN q).heap.size (W.drewN q) W1) : St2 w W1 s t a b c d := (h.drewN q).next hb
theorem St2.made {w : World} (hG : Ground w) (s t : TypeId) (a b c d : ByteArray) :
    St2 w (((w.alloc (.cells #[.string a, .string b] s)).alloc (.cells #[.string c, .string d] s)).alloc (.cells #[.string ⟨#[]⟩, .string ⟨#[]⟩] t)) s t a b c d := by
  have hB : Below w.heap.size w (((w.alloc (.cells #[.string a, .string b] s)).alloc (.cells #[.string c, .string d] s)).alloc (.cells #[.string ⟨#[]⟩, .string ⟨#[]⟩] t)) := (((Below.refl _ _).alloc (Nat.le_refl _) _).alloc (by simp) _).alloc (by simp; omega) _
  refine ⟨hG.below hB, ((PairAt.made w s a b).alloc _).alloc _, ?_, ?_, hB⟩
  · have := (PairAt.made (w.alloc (.cells #[.string a, .string b] s)) s c d).alloc (.cells #[.string ⟨#[]⟩, .string ⟨#[]⟩] t)
    simpa using this
  · have := PairAt.made ((w.alloc (.cells #[.string a, .string b] s)).alloc (.cells #[.string c, .string d] s)) t ⟨#[]⟩ ⟨#[]⟩
    simpa using this
theorem St2.cells {w W : World} {s t : TypeId} {a b c d : ByteArray} (h : St2 w W s t a b c d) :
    W.cell? ⟨w.heap.size, 0, none⟩ = some (.string a) ∧ W.cell? ⟨w.heap.size, 1, none⟩ = some (.string b) ∧ W.cell? ⟨w.heap.size + 1, 0, none⟩ = some (.string c) ∧ W.cell? ⟨w.heap.size + 1, 1, none⟩ = some (.string d) ∧
    W.cell? ⟨w.heap.size + 1 + 1, 0, none⟩ = some (.string ⟨#[]⟩) ∧ W.cell? ⟨w.heap.size + 1 + 1, 1, none⟩ = some (.string ⟨#[]⟩) ∧ W.frozen? ⟨w.heap.size + 1 + 1, 0, none⟩ = false ∧ W.frozen? ⟨w.heap.size + 1 + 1, 1, none⟩ = false := by
  obtain ⟨x0, x1, _, _⟩ := h.x.cells
  obtain ⟨y0, y1, _, _⟩ := h.y.cells
  obtain ⟨r0, r1, r2, r3⟩ := h.r.cells
  exact ⟨x0, x1, y0, y1, r0, r1, r2, r3⟩

end Go.Proofs.YthhihdihkddakaaGreatDoor
