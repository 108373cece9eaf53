/- The reference implementation of layer 1: Gcd, Power: walks. -/
import Derived.Test.YtahnkmkmoalbhaaGreatDoorZBA
import Derived.Test.YtahnkmkmoalbhaaGreatDoorZBD
import Derived.Test.YtahnkmkmoalbhaaGreatDoorZBG
import Derived.Deep.Cut
import Derived.Deep.RegionHeld3
import Derived.Laws.EntriesVeiled
import Derived.Laws.StructEq
import Derived.Lib.CutLaws
namespace Go.Proofs.YtahnkmkmoalbhaaGreatDoor
open Go.RowKit

theorem dig_cS (s : ByteArray) : (ByteArray.mk (Num.sdig s.data.toList).toArray) = cS ((vS s).natAbs : Int) := by
  unfold cS Num.canon
  rw [if_neg (by omega), Num.sdig_val]
  simp [vS]
def absV : Value → Nat | .string s => (vS s).natAbs | _ => 0

set_option maxRecDepth 100000 in
set_option maxHeartbeats 2000000 in
theorem rGcd_any (a b : ByteArray) (w : World) (ha : a.size ≤ 900) (hb : b.size ≤ 900) :
    Calls Tryz.prog 158 #[.string a, .string b] w (StrPost w (Int.gcd (vS a) (vS b) : Int)) := by
  have hma := lim_max (show a.size ≤ 4294967296 by omega)
  have hmb := lim_max (show b.size ≤ 4294967296 by omega)
  have hA := vS_lt a
  have hB0 := vS_lt b
  have hA2 := Nat.pow_le_pow_right (show 1 ≤ 10 by decide) ha
  have hB2 := Nat.pow_le_pow_right (show 1 ≤ 10 by decide) hb
  have HA := Lib.hid (Nat.lt_of_lt_of_le hA hA2)
  have HB := Lib.hid (Nat.lt_of_lt_of_le hB0 hB2)
  clear hA hB0 hA2 hB2
  have hst : (Int.gcd ((vS a).natAbs : Int) ((vS b).natAbs : Int) : Int) = (Int.gcd (vS a) (vS b) : Int) := by simp [Int.gcd]
  have HST := Lib.hid hst
  clear hst
  go_enter Tryz.func158, Tryz.ntmps158
  go_wp2_with fail
  refine (digits_any a _ hma).mono ?_
  rintro e w' ⟨rfl, rfl⟩
  rw [dig_cS]
  go_wp2_with fail
  refine (digits_any b _ hmb).mono ?_
  rintro e w' ⟨rfl, rfl⟩
  rw [dig_cS]
  go_wp2_with fail
  go_loopw [9, 10] (fun xv yv wr => ∃ X Y : Int, 0 ≤ X ∧ 0 ≤ Y ∧ xv = .string (cS X) ∧ yv = .string (cS Y) ∧ (Int.gcd X Y : Int) = (Int.gcd (vS a) (vS b) : Int) ∧ X.natAbs < 10 ^ 900 ∧ Y.natAbs < 10 ^ 900 ∧ Below w.heap.size w wr) (fun _ yv _ => absV yv)
  case atStart => exact ⟨_, _, by omega, by omega, rfl, rfl, HST.out, by rw [Int.natAbs_natCast]; exact HA.out, by rw [Int.natAbs_natCast]; exact HB.out, Below.refl _ _⟩
  case round =>
    clear HST HA HB
    obtain ⟨X, Y, hX0, hY0, rfl, rfl, hg, hX, hY, hB⟩ := hrel
    have HG := Lib.hid hg
    have HX := Lib.hid hX
    have HY := Lib.hid hY
    have HB := Lib.hid hB
    clear hg hX hY hB
    by_cases hz : Y = 0
    · subst hz
      have H := Lib.hid (show X = (Int.gcd (vS a) (vS b) : Int) by rw [← HG.out, Int.gcd_zero_right]; omega)
      have hc0 : (cS 0) = ⟨#[]⟩ := by decide +kernel
      clear HG HX HY
      go_wp2_with fail
      go_ret
      exact ⟨by rw [H.out]; rfl, HB.out⟩
    · have hb := cS_empty Y
      rw [decide_eq_false hz] at hb
      have hsx : (cS X).size ≤ 1000 := Nat.le_trans (cS_size HX.out) (by decide)
      have hsy : (cS Y).size ≤ 1000 := Nat.le_trans (cS_size HY.out) (by decide)
      have hv0 : vS (cS Y) ≠ 0 := by rw [vS_cS]; exact hz
      have hdm := Int.fmod_add_mul_fdiv X Y
      have h1 : 0 ≤ Int.fmod X Y := Int.fmod_nonneg_of_pos _ (by omega)
      have h2 : Int.fmod X Y < Y := Int.fmod_lt_of_pos _ (by omega)
      have hgs := gcd_step (A := X) (D := Y) (Q := Int.fdiv X Y) (R := Int.fmod X Y) (by rw [Int.mul_comm (Int.fdiv X Y)]; omega)
      have HNG := Lib.hid (show (Int.gcd Y (Int.fmod X Y) : Int) = (Int.gcd (vS a) (vS b) : Int) by rw [hgs, HG.out])
      have HNR := Lib.hid (show (Int.fmod X Y).natAbs < 10 ^ 900 from Nat.lt_of_le_of_lt (by omega) HY.out)
      have HM := Lib.hid (And.intro h1 h2)
      have HV0 := Lib.hid hv0
      clear hdm h1 h2 hgs hv0 hz
      go_wp2_with fail
      refine (rDiv_any (cS X) (cS Y) wr hsx hsy HV0.out).mono ?_
      rintro e w3 ⟨rfl, hB3⟩
      rw [vS_cS, vS_cS]
      have HB3 := Lib.hid (HB.out.trans (hB3.mono HB.out.size))
      clear hB3
      go_wp2_with fail
      go_roundw
      case rel => exact ⟨Y, Int.fmod X Y, hY0, HM.out.1, rfl, rfl, HNG.out, HY.out, HNR.out, HB3.out⟩
      case measure => unfold absV; simp only [vS_cS]; have := HM.out; omega

end Go.Proofs.YtahnkmkmoalbhaaGreatDoor

/- The reference implementation of layer 1: Compare: the walk. -/
namespace Go.Proofs.YtahnkmkmoalbhaaGreatDoor
open Go.RowKit

/-- the order of two integers by their signs and digits -/
theorem cmp_signs {a b : ByteArray} (ha : Num.sneg a.data.toList = true) (hb : Num.sneg b.data.toList = false) : cmp3 (vS a) (vS b) = -1 ∧ cmp3 (vS b) (vS a) = 1 := by
  have h1 := (vS_neg ha).2
  have h2 := (vS_pos hb).2
  exact ⟨cmp3_lt (by omega), cmp3_gt (by omega)⟩

set_option maxHeartbeats 1000000 in
theorem rCompare_false_false (a b : ByteArray) (w : World) (ha : a.size ≤ 4294967296) (hb : b.size ≤ 4294967296) (hna : Num.sneg a.data.toList = false) (hnb : Num.sneg b.data.toList = false) :
    Calls Tryz.prog 97 #[.string a, .string b] w fun e w' => e = .returned (.int .i64 (cmp3 (vS a) (vS b))) ∧ w = w' := by
  have hma := lim_max ha
  have hmb := lim_max hb
  obtain ⟨X, hX, hXl, hXa, hXs⟩ := dig_str a
  obtain ⟨Y, hY, hYl, hYa, hYs⟩ := dig_str b
  have HDA := Lib.hid hX
  have HDB := Lib.hid hY
  have HNA := Lib.hid hna
  have HNB := Lib.hid hnb
  have hva := (vS_pos hna).1
  have hvb := (vS_pos hnb).1
  rw [← hXl] at hva
  rw [← hYl] at hvb
  have pa := Num.Plain.sdig a.data.toList
  have pb := Num.Plain.sdig b.data.toList
  rw [← hXl] at pa
  rw [← hYl] at pb
  have HVA := Lib.hid hva
  have HVB := Lib.hid hvb
  have HPA := Lib.hid pa
  have HPB := Lib.hid pb
  clear hX hY hna hnb hXl hXa hYl hYa hva hvb pa pb
  by_cases h1 : X.size < Y.size
  · have hc : cmp3 (vS a) (vS b) = -1 := by
      have := num_lt_of_length HPA.out HPB.out (by rw [size_toList, size_toList]; exact h1)
      rw [HVA.out, HVB.out]
      exact cmp3_lt (by omega)
    have H := Lib.hid hc
    have hq : ((X.size : Int) == (Y.size : Int)) = false := by rw [beq_eq_false_iff_ne]; omega
    clear hc
    go_enter Tryz.func97, Tryz.ntmps97
    go_wp2_with fail
    refine (digits_any a w hma).mono ?_
    rintro e w' ⟨rfl, rfl⟩
    rw [← HDA.out, HNA.out]
    go_wp2_with fail
    refine (digits_any b w hmb).mono ?_
    rintro e w' ⟨rfl, rfl⟩
    rw [← HDB.out, HNB.out]
    go_wp2_with fail
    go_ret
    exact ⟨by rw [H.out]; rfl, rfl⟩
  · by_cases h2 : Y.size < X.size
    · have hc : cmp3 (vS a) (vS b) = 1 := by
        have := num_lt_of_length HPB.out HPA.out (by rw [size_toList, size_toList]; exact h2)
        rw [HVA.out, HVB.out]
        exact cmp3_gt (by omega)
      have H := Lib.hid hc
      have hq : ((X.size : Int) == (Y.size : Int)) = false := by rw [beq_eq_false_iff_ne]; omega
      clear hc
      go_enter Tryz.func97, Tryz.ntmps97
      go_wp2_with fail
      refine (digits_any a w hma).mono ?_
      rintro e w' ⟨rfl, rfl⟩
      rw [← HDA.out, HNA.out]
      go_wp2_with fail
      refine (digits_any b w hmb).mono ?_
      rintro e w' ⟨rfl, rfl⟩
      rw [← HDB.out, HNB.out]
      go_wp2_with fail
      go_ret
      exact ⟨by rw [H.out]; rfl, rfl⟩
    · have hl : X.data.toList.length = Y.data.toList.length := by rw [size_toList, size_toList]; omega
      have hq : ((X.size : Int) == (Y.size : Int)) = true := by rw [beq_iff_eq]; omega
      have e1 := bytesLess_num _ _ HPA.out.1 HPB.out.1 hl
      have e2 := beq_num HPA.out.1 HPB.out.1 hl
      rw [← Lib.toList_data X, ← Lib.toList_data Y] at e1 e2
      by_cases h3 : Num.num X.data.toList < Num.num Y.data.toList
      · have hc : cmp3 (vS a) (vS b) = -1 := by
          rw [HVA.out, HVB.out]
          exact cmp3_lt (by omega)
        have H := Lib.hid hc
        rw [Lib.toList_data X, Lib.toList_data Y, decide_eq_true h3, ← Lib.toList_data X, ← Lib.toList_data Y] at e1
        clear hc e2 h1 h2 h3 hl
        go_enter Tryz.func97, Tryz.ntmps97
        go_wp2_with fail
        refine (digits_any a w hma).mono ?_
        rintro e w' ⟨rfl, rfl⟩
        rw [← HDA.out, HNA.out]
        go_wp2_with fail
        refine (digits_any b w hmb).mono ?_
        rintro e w' ⟨rfl, rfl⟩
        rw [← HDB.out, HNB.out]
        go_wp2_with fail
        go_ret
        exact ⟨by rw [H.out]; rfl, rfl⟩
      · by_cases h4 : Num.num Y.data.toList < Num.num X.data.toList
        · have hc : cmp3 (vS a) (vS b) = 1 := by
            rw [HVA.out, HVB.out]
            exact cmp3_gt (by omega)
          have H := Lib.hid hc
          rw [Lib.toList_data X, Lib.toList_data Y, decide_eq_false h3, ← Lib.toList_data X, ← Lib.toList_data Y] at e1
          rw [Lib.toList_data X, Lib.toList_data Y, decide_eq_false (by omega), ← Lib.toList_data X, ← Lib.toList_data Y] at e2
          clear hc h1 h2 h3 h4 hl
          go_enter Tryz.func97, Tryz.ntmps97
          go_wp2_with fail
          refine (digits_any a w hma).mono ?_
          rintro e w' ⟨rfl, rfl⟩
          rw [← HDA.out, HNA.out]
          go_wp2_with fail
          refine (digits_any b w hmb).mono ?_
          rintro e w' ⟨rfl, rfl⟩
          rw [← HDB.out, HNB.out]
          go_wp2_with fail
          go_ret
          exact ⟨by rw [H.out]; rfl, rfl⟩
        · have hc : cmp3 (vS a) (vS b) = 0 := by
            rw [HVA.out, HVB.out]
            exact cmp3_eq (by omega)
          have H := Lib.hid hc
          rw [Lib.toList_data X, Lib.toList_data Y, decide_eq_false h3, ← Lib.toList_data X, ← Lib.toList_data Y] at e1
          rw [Lib.toList_data X, Lib.toList_data Y, decide_eq_true (by omega), ← Lib.toList_data X, ← Lib.toList_data Y] at e2
          clear hc h1 h2 h3 h4 hl
          go_enter Tryz.func97, Tryz.ntmps97
          go_wp2_with fail
          refine (digits_any a w hma).mono ?_
          rintro e w' ⟨rfl, rfl⟩
          rw [← HDA.out, HNA.out]
          go_wp2_with fail
          refine (digits_any b w hmb).mono ?_
          rintro e w' ⟨rfl, rfl⟩
          rw [← HDB.out, HNB.out]
          go_wp2_with fail
          go_ret
          exact ⟨by rw [H.out]; rfl, rfl⟩

set_option maxHeartbeats 1000000 in
theorem rCompare_false_true (a b : ByteArray) (w : World) (ha : a.size ≤ 4294967296) (hb : b.size ≤ 4294967296) (hna : Num.sneg a.data.toList = false) (hnb : Num.sneg b.data.toList = true) :
    Calls Tryz.prog 97 #[.string a, .string b] w fun e w' => e = .returned (.int .i64 (cmp3 (vS a) (vS b))) ∧ w = w' := by
  have hma := lim_max ha
  have hmb := lim_max hb
  obtain ⟨X, hX, hXl, hXa, hXs⟩ := dig_str a
  obtain ⟨Y, hY, hYl, hYa, hYs⟩ := dig_str b
  have HDA := Lib.hid hX
  have HDB := Lib.hid hY
  have HNA := Lib.hid hna
  have HNB := Lib.hid hnb
  have H := Lib.hid ((cmp_signs hnb hna).2)
  clear hX hY hna hnb hXl hXa hYl hYa
  go_enter Tryz.func97, Tryz.ntmps97
  go_wp2_with fail
  refine (digits_any a w hma).mono ?_
  rintro e w' ⟨rfl, rfl⟩
  rw [← HDA.out, HNA.out]
  go_wp2_with fail
  refine (digits_any b w hmb).mono ?_
  rintro e w' ⟨rfl, rfl⟩
  rw [← HDB.out, HNB.out]
  go_wp2_with fail
  go_ret
  exact ⟨by rw [H.out]; rfl, rfl⟩

set_option maxHeartbeats 1000000 in
theorem rCompare_true_false (a b : ByteArray) (w : World) (ha : a.size ≤ 4294967296) (hb : b.size ≤ 4294967296) (hna : Num.sneg a.data.toList = true) (hnb : Num.sneg b.data.toList = false) :
    Calls Tryz.prog 97 #[.string a, .string b] w fun e w' => e = .returned (.int .i64 (cmp3 (vS a) (vS b))) ∧ w = w' := by
  have hma := lim_max ha
  have hmb := lim_max hb
  obtain ⟨X, hX, hXl, hXa, hXs⟩ := dig_str a
  obtain ⟨Y, hY, hYl, hYa, hYs⟩ := dig_str b
  have HDA := Lib.hid hX
  have HDB := Lib.hid hY
  have HNA := Lib.hid hna
  have HNB := Lib.hid hnb
  have H := Lib.hid ((cmp_signs hna hnb).1)
  clear hX hY hna hnb hXl hXa hYl hYa
  go_enter Tryz.func97, Tryz.ntmps97
  go_wp2_with fail
  refine (digits_any a w hma).mono ?_
  rintro e w' ⟨rfl, rfl⟩
  rw [← HDA.out, HNA.out]
  go_wp2_with fail
  refine (digits_any b w hmb).mono ?_
  rintro e w' ⟨rfl, rfl⟩
  rw [← HDB.out, HNB.out]
  go_wp2_with fail
  go_ret
  exact ⟨by rw [H.out]; rfl, rfl⟩

set_option maxHeartbeats 1000000 in
theorem rCompare_true_true (a b : ByteArray) (w : World) (ha : a.size ≤ 4294967296) (hb : b.size ≤ 4294967296) (hna : Num.sneg a.data.toList = true) (hnb : Num.sneg b.data.toList = true) :
    Calls Tryz.prog 97 #[.string a, .string b] w fun e w' => e = .returned (.int .i64 (cmp3 (vS a) (vS b))) ∧ w = w' := by
  have hma := lim_max ha
  have hmb := lim_max hb
  obtain ⟨X, hX, hXl, hXa, hXs⟩ := dig_str a
  obtain ⟨Y, hY, hYl, hYa, hYs⟩ := dig_str b
  have HDA := Lib.hid hX
  have HDB := Lib.hid hY
  have HNA := Lib.hid hna
  have HNB := Lib.hid hnb
  have hva := (vS_neg hna).1
  have hvb := (vS_neg hnb).1
  rw [← hXl] at hva
  rw [← hYl] at hvb
  have pa := Num.Plain.sdig a.data.toList
  have pb := Num.Plain.sdig b.data.toList
  rw [← hXl] at pa
  rw [← hYl] at pb
  have HVA := Lib.hid hva
  have HVB := Lib.hid hvb
  have HPA := Lib.hid pa
  have HPB := Lib.hid pb
  clear hX hY hna hnb hXl hXa hYl hYa hva hvb pa pb
  by_cases h1 : X.size < Y.size
  · have hc : cmp3 (vS a) (vS b) = 1 := by
      have := num_lt_of_length HPA.out HPB.out (by rw [size_toList, size_toList]; exact h1)
      rw [HVA.out, HVB.out]
      exact cmp3_gt (by omega)
    have H := Lib.hid hc
    have hq : ((X.size : Int) == (Y.size : Int)) = false := by rw [beq_eq_false_iff_ne]; omega
    clear hc
    go_enter Tryz.func97, Tryz.ntmps97
    go_wp2_with fail
    refine (digits_any a w hma).mono ?_
    rintro e w' ⟨rfl, rfl⟩
    rw [← HDA.out, HNA.out]
    go_wp2_with fail
    refine (digits_any b w hmb).mono ?_
    rintro e w' ⟨rfl, rfl⟩
    rw [← HDB.out, HNB.out]
    go_wp2_with fail
    go_ret
    exact ⟨by rw [H.out]; rfl, rfl⟩
  · by_cases h2 : Y.size < X.size
    · have hc : cmp3 (vS a) (vS b) = -1 := by
        have := num_lt_of_length HPB.out HPA.out (by rw [size_toList, size_toList]; exact h2)
        rw [HVA.out, HVB.out]
        exact cmp3_lt (by omega)
      have H := Lib.hid hc
      have hq : ((X.size : Int) == (Y.size : Int)) = false := by rw [beq_eq_false_iff_ne]; omega
      clear hc
      go_enter Tryz.func97, Tryz.ntmps97
      go_wp2_with fail
      refine (digits_any a w hma).mono ?_
      rintro e w' ⟨rfl, rfl⟩
      rw [← HDA.out, HNA.out]
      go_wp2_with fail
      refine (digits_any b w hmb).mono ?_
      rintro e w' ⟨rfl, rfl⟩
      rw [← HDB.out, HNB.out]
      go_wp2_with fail
      go_ret
      exact ⟨by rw [H.out]; rfl, rfl⟩
    · have hl : X.data.toList.length = Y.data.toList.length := by rw [size_toList, size_toList]; omega
      have hq : ((X.size : Int) == (Y.size : Int)) = true := by rw [beq_iff_eq]; omega
      have e1 := bytesLess_num _ _ HPA.out.1 HPB.out.1 hl
      have e2 := beq_num HPA.out.1 HPB.out.1 hl
      rw [← Lib.toList_data X, ← Lib.toList_data Y] at e1 e2
      by_cases h3 : Num.num X.data.toList < Num.num Y.data.toList
      · have hc : cmp3 (vS a) (vS b) = 1 := by
          rw [HVA.out, HVB.out]
          exact cmp3_gt (by omega)
        have H := Lib.hid hc
        rw [Lib.toList_data X, Lib.toList_data Y, decide_eq_true h3, ← Lib.toList_data X, ← Lib.toList_data Y] at e1
        clear hc e2 h1 h2 h3 hl
        go_enter Tryz.func97, Tryz.ntmps97
        go_wp2_with fail
        refine (digits_any a w hma).mono ?_
        rintro e w' ⟨rfl, rfl⟩
        rw [← HDA.out, HNA.out]
        go_wp2_with fail
        refine (digits_any b w hmb).mono ?_
        rintro e w' ⟨rfl, rfl⟩
        rw [← HDB.out, HNB.out]
        go_wp2_with fail
        go_ret
        exact ⟨by rw [H.out]; rfl, rfl⟩
      · by_cases h4 : Num.num Y.data.toList < Num.num X.data.toList
        · have hc : cmp3 (vS a) (vS b) = -1 := by
            rw [HVA.out, HVB.out]
            exact cmp3_lt (by omega)
          have H := Lib.hid hc
          rw [Lib.toList_data X, Lib.toList_data Y, decide_eq_false h3, ← Lib.toList_data X, ← Lib.toList_data Y] at e1
          rw [Lib.toList_data X, Lib.toList_data Y, decide_eq_false (by omega), ← Lib.toList_data X, ← Lib.toList_data Y] at e2
          clear hc h1 h2 h3 h4 hl
          go_enter Tryz.func97, Tryz.ntmps97
          go_wp2_with fail
          refine (digits_any a w hma).mono ?_
          rintro e w' ⟨rfl, rfl⟩
          rw [← HDA.out, HNA.out]
          go_wp2_with fail
          refine (digits_any b w hmb).mono ?_
          rintro e w' ⟨rfl, rfl⟩
          rw [← HDB.out, HNB.out]
          go_wp2_with fail
          go_ret
          exact ⟨by rw [H.out]; rfl, rfl⟩
        · have hc : cmp3 (vS a) (vS b) = 0 := by
            rw [HVA.out, HVB.out]
            exact cmp3_eq (by omega)
          have H := Lib.hid hc
          rw [Lib.toList_data X, Lib.toList_data Y, decide_eq_false h3, ← Lib.toList_data X, ← Lib.toList_data Y] at e1
          rw [Lib.toList_data X, Lib.toList_data Y, decide_eq_true (by omega), ← Lib.toList_data X, ← Lib.toList_data Y] at e2
          clear hc h1 h2 h3 h4 hl
          go_enter Tryz.func97, Tryz.ntmps97
          go_wp2_with fail
          refine (digits_any a w hma).mono ?_
          rintro e w' ⟨rfl, rfl⟩
          rw [← HDA.out, HNA.out]
          go_wp2_with fail
          refine (digits_any b w hmb).mono ?_
          rintro e w' ⟨rfl, rfl⟩
          rw [← HDB.out, HNB.out]
          go_wp2_with fail
          go_ret
          exact ⟨by rw [H.out]; rfl, rfl⟩

theorem rCompare_any (a b : ByteArray) (w : World) (ha : a.size ≤ 4294967296) (hb : b.size ≤ 4294967296) :
    Calls Tryz.prog 97 #[.string a, .string b] w fun e w' => e = .returned (.int .i64 (cmp3 (vS a) (vS b))) ∧ w = w' := by
  cases na : Num.sneg a.data.toList <;> cases nb : Num.sneg b.data.toList
  · exact rCompare_false_false a b w ha hb na nb
  · exact rCompare_false_true a b w ha hb na nb
  · exact rCompare_true_false a b w ha hb na nb
  · exact rCompare_true_true a b w ha hb na nb

end Go.Proofs.YtahnkmkmoalbhaaGreatDoor

/- The plain mathematics of fractions: lowest terms. It imports nothing of the program. -/
namespace Go.Proofs.YtahnkmkmoalbhaaGreatDoor.Fra

/-- numerator and denominator in lowest terms, for a positive denominator -/
def red (n d : Int) : Int × Int := (n / (Int.gcd n d : Int), d / (Int.gcd n d : Int))

theorem gcd_pos {n d : Int} (h : 0 < d) : (0 : Int) < (Int.gcd n d : Int) := by
  have : Int.gcd n d ≠ 0 := by
    intro e
    rw [Int.gcd_eq_zero_iff] at e
    omega
  omega
theorem red_left {n d : Int} : n = (red n d).1 * (Int.gcd n d : Int) := (Int.ediv_mul_cancel (Int.gcd_dvd_left _ _)).symm
theorem red_right {n d : Int} : d = (red n d).2 * (Int.gcd n d : Int) := (Int.ediv_mul_cancel (Int.gcd_dvd_right _ _)).symm
theorem red_pos {n d : Int} (h : 0 < d) : 0 < (red n d).2 := by
  have h1 := red_right (n := n) (d := d)
  have h2 := gcd_pos (n := n) h
  by_cases h3 : 0 < (red n d).2
  · exact h3
  · exfalso
    have := Int.mul_nonpos_of_nonpos_of_nonneg (show (red n d).2 ≤ 0 by omega) (show 0 ≤ (Int.gcd n d : Int) by omega)
    omega
theorem red_coprime {n d : Int} (h : 0 < d) : Int.gcd (red n d).1 (red n d).2 = 1 := by
  have h2 := gcd_pos (n := n) h
  have h3 : Int.gcd n d = Int.gcd (red n d).1 (red n d).2 * Int.gcd n d := by
    conv => lhs; rw [red_left (n := n) (d := d)]
    conv => lhs; arg 2; rw [red_right (n := n) (d := d)]
    rw [Int.gcd_mul_right]; simp
  have h4 : 0 < Int.gcd n d := by omega
  exact Nat.eq_of_mul_eq_mul_right h4 (by omega)
theorem red_cross {n d : Int} : (red n d).1 * d = n * (red n d).2 := by
  have h1 := red_left (n := n) (d := d)
  have h2 := red_right (n := n) (d := d)
  generalize (red n d).1 = p at *
  generalize (red n d).2 = q at *
  generalize (Int.gcd n d : Int) = g at *
  subst h1
  subst h2
  rw [Int.mul_comm q g, ← Int.mul_assoc]

theorem dvd_of_coprime {q p s : Int} (h : Int.gcd p q = 1) (hd : q ∣ p * s) : q ∣ s := by
  have h1 : q.natAbs ∣ p.natAbs * s.natAbs := by rw [← Int.natAbs_mul]; exact Int.natAbs_dvd_natAbs.2 hd
  have h2 : Nat.Coprime q.natAbs p.natAbs := by
    unfold Nat.Coprime
    rw [Nat.gcd_comm]; exact h
  exact Int.natAbs_dvd_natAbs.1 (Nat.Coprime.dvd_of_dvd_mul_left h2 h1)

/-- two pairs in lowest terms with one value are one pair -/
theorem lowest_unique {p q r s : Int} (hq : 0 < q) (hs : 0 < s) (h1 : Int.gcd p q = 1) (h2 : Int.gcd r s = 1) (h : p * s = r * q) : p = r ∧ q = s := by
  have a : q ∣ s := by
    have : q ∣ p * s := ⟨r, by rw [h, Int.mul_comm]⟩
    exact dvd_of_coprime h1 this
  have b : s ∣ q := by
    have : s ∣ r * q := ⟨p, by rw [← h, Int.mul_comm]⟩
    exact dvd_of_coprime h2 this
  have e : q = s := Int.dvd_antisymm (by omega) (by omega) a b
  subst e
  exact ⟨Int.eq_of_mul_eq_mul_right (by omega) h, rfl⟩

theorem red_eq {n d m e : Int} (hd : 0 < d) (he : 0 < e) (h : n * e = m * d) : red n d = red m e := by
  have := lowest_unique (red_pos hd) (red_pos he) (red_coprime hd) (red_coprime he) (by
    have h1 := red_cross (n := n) (d := d)
    have h2 := red_cross (n := m) (d := e)
    have h3 : ((red n d).1 * (red m e).2) * (d * e) = ((red m e).1 * (red n d).2) * (d * e) := by grind
    exact Int.eq_of_mul_eq_mul_right (by have := Int.mul_pos hd he; omega) h3)
  exact Prod.ext this.1 this.2
theorem red_lowest {p q : Int} (h : Int.gcd p q = 1) : red p q = (p, q) := by
  unfold red; rw [h]; simp
theorem red_zero {d : Int} (hd : 0 < d) : red 0 d = (0, 1) := by
  unfold red
  rw [Int.gcd_zero_left]
  have : ((d.natAbs : Nat) : Int) = d := by omega
  rw [this, Int.ediv_self (by omega)]; simp

end Go.Proofs.YtahnkmkmoalbhaaGreatDoor.Fra

/- The plain mathematics of fractions: the four operations on pairs, their laws. It imports nothing of the program. -/
namespace Go.Proofs.YtahnkmkmoalbhaaGreatDoor.Fra

def addP (x y : Int × Int) : Int × Int := red (x.1 * y.2 + y.1 * x.2) (x.2 * y.2)
def mulP (x y : Int × Int) : Int × Int := red (x.1 * y.1) (x.2 * y.2)
def negP (x : Int × Int) : Int × Int := red (-x.1) x.2
def low (x : Int × Int) : Int × Int := red x.1 x.2
theorem low_pos {x : Int × Int} (h : 0 < x.2) : 0 < (low x).2 := red_pos h
theorem low_cross (x : Int × Int) : (low x).1 * x.2 = x.1 * (low x).2 := red_cross
theorem mulP_pos {x y : Int × Int} (hx : 0 < x.2) (hy : 0 < y.2) : 0 < (mulP x y).2 := red_pos (Int.mul_pos hx hy)
/-- pairs with one value -/
def Same (x y : Int × Int) : Prop := x.1 * y.2 = y.1 * x.2
theorem Same.low {x : Int × Int} : Same (low x) x := by unfold Same; rw [low_cross]
theorem low_eq {x y : Int × Int} (hx : 0 < x.2) (hy : 0 < y.2) (h : Same x y) : low x = low y := red_eq hx hy h
theorem mulP_congr {x y z w : Int × Int} (hx : 0 < x.2) (hy : 0 < y.2) (hz : 0 < z.2) (hw : 0 < w.2) (h : Same x z) (k : Same y w) : mulP x y = mulP z w := by
  refine red_eq (Int.mul_pos hx hy) (Int.mul_pos hz hw) ?_
  unfold Same at h k
  grind
end Go.Proofs.YtahnkmkmoalbhaaGreatDoor.Fra

/- The plain mathematics of fractions: order, rounding down, powers. It imports nothing of the program but the word for an order. -/
namespace Go.Proofs.YtahnkmkmoalbhaaGreatDoor.Fra

theorem cmp3_zero (a b : Int) : cmp3 a b = 0 ↔ a = b := by unfold cmp3; split <;> (try split) <;> omega
end Go.Proofs.YtahnkmkmoalbhaaGreatDoor.Fra

/- The plain mathematics of fractions: quotients of any sign, powers with exponents of any sign. It imports nothing of the program. -/
namespace Go.Proofs.YtahnkmkmoalbhaaGreatDoor.Fra

/-- n / d in lowest terms, for a d other than 0 -/
def redS (n d : Int) : Int × Int := if d < 0 then red (-n) (-d) else red n d

theorem redS_red {n d : Int} (hd : 0 < d) : redS n d = red n d := by unfold redS; rw [if_neg (by omega)]
end Go.Proofs.YtahnkmkmoalbhaaGreatDoor.Fra

/- The value of a fraction's two strings, and the strings of a value: plain mathematics. -/
namespace Go.Proofs.YtahnkmkmoalbhaaGreatDoor
open Go.RowKit Fra

/-- numerator and denominator as they are, with a positive denominator -/
def rawP (n d : Int) : Int × Int := if d = 0 then (n, 1) else if d < 0 then (-n, -d) else (n, d)
def raw (n d : ByteArray) : Int × Int := rawP (vS n) (vS d)
theorem rawP_pos (n d : Int) : 0 < (rawP n d).2 := by
  unfold rawP
  split
  · exact Int.one_pos
  · split
    · show 0 < -d; omega
    · show 0 < d; omega
theorem raw_pos (n d : ByteArray) : 0 < (raw n d).2 := rawP_pos _ _
theorem rawP_redS {n d : Int} (h : d ≠ 0) : low (rawP n d) = redS n d := by
  unfold rawP low redS; rw [if_neg h]; split <;> rfl
theorem rawP_zero (n : Int) : rawP n 0 = (n, 1) := rfl
theorem rawP_of_pos {n d : Int} (h : 0 < d) : rawP n d = (n, d) := by unfold rawP; rw [if_neg (by omega), if_neg (by omega)]
theorem rawP_of_neg {n d : Int} (h : d < 0) : rawP n d = (-n, -d) := by unfold rawP; rw [if_neg (by omega), if_pos h]

/-- in lowest terms, with a positive denominator -/
def Low (p : Int × Int) : Prop := 0 < p.2 ∧ Int.gcd p.1 p.2 = 1
theorem Low.of_red {n d : Int} (h : 0 < d) : Low (red n d) := ⟨red_pos h, red_coprime h⟩
theorem Low.of_mulP {x y : Int × Int} (hx : 0 < x.2) (hy : 0 < y.2) : Low (mulP x y) := Low.of_red (Int.mul_pos hx hy)
theorem Low.eq {p : Int × Int} (h : Low p) : low p = p := red_lowest h.2

/-- the canonical denominator -/
def cD (d : Int) : ByteArray := if d = 1 then ⟨#[]⟩ else cS d
theorem raw_can {p : Int × Int} (h : 0 < p.2) : raw (cS p.1) (cD p.2) = p := by
  unfold raw cD
  by_cases h1 : p.2 = 1
  · rw [if_pos h1, vS_cS, vS_nil, rawP_zero]; exact Prod.ext rfl h1.symm
  · rw [if_neg h1, vS_cS, vS_cS, rawP_of_pos h]
theorem cD_one : cD 1 = ⟨#[]⟩ := by unfold cD; rw [if_pos rfl]
/-! ### Digits -/
theorem Cap.one {k : Nat} (h : 1 ≤ k) : Cap k 1 := by
  unfold Cap
  have := Nat.pow_le_pow_right (show 0 < 10 by decide) h
  show 1 < 10 ^ k
  omega
def CapP (k : Nat) (p : Int × Int) : Prop := Cap k p.1 ∧ Cap k p.2
theorem CapP.mono {k l : Nat} {p : Int × Int} (h : CapP k p) (hkl : k ≤ l) : CapP l p := ⟨h.1.mono hkl, h.2.mono hkl⟩
theorem Cap.factor {k : Nat} {n r g : Int} (h : Cap k n) (hr : n = r * g) (hg : 0 < g) : Cap k r := by
  unfold Cap at *
  have : n.natAbs = r.natAbs * g.natAbs := by rw [hr, Int.natAbs_mul]
  have h2 : r.natAbs * 1 ≤ r.natAbs * g.natAbs := Nat.mul_le_mul_left _ (by omega)
  omega
theorem CapP.of_red {k : Nat} {n d : Int} (hd : 0 < d) (h1 : Cap k n) (h2 : Cap k d) : CapP k (red n d) :=
  ⟨h1.factor red_left (gcd_pos hd), h2.factor red_right (gcd_pos hd)⟩
theorem CapP.of_raw {k : Nat} {n d : ByteArray} (hk : 1 ≤ k) (h1 : n.size ≤ k) (h2 : d.size ≤ k) : CapP k (raw n d) := by
  have c1 : Cap k (vS n) := Cap.of h1 rfl
  have c2 : Cap k (vS d) := Cap.of h2 rfl
  unfold raw rawP
  split
  · exact ⟨c1, Cap.one hk⟩
  · split
    · exact ⟨c1.neg, c2.neg⟩
    · exact ⟨c1, c2⟩
theorem CapP.low {k : Nat} {x : Int × Int} (h : CapP k x) (hx : 0 < x.2) : CapP k (low x) := CapP.of_red hx h.1 h.2
theorem CapP.add {k l : Nat} {x y : Int × Int} (h : CapP k x) (g : CapP l y) (hx : 0 < x.2) (hy : 0 < y.2) : CapP (k + l + 1) (addP x y) := by
  refine CapP.of_red (Int.mul_pos hx hy) (Cap.add (h.1.mul g.2) ?_) ((h.2.mul g.2).mono (by omega))
  have := g.1.mul h.2
  rwa [Nat.add_comm] at this
theorem CapP.mul {k l : Nat} {x y : Int × Int} (h : CapP k x) (g : CapP l y) (hx : 0 < x.2) (hy : 0 < y.2) : CapP (k + l) (mulP x y) :=
  CapP.of_red (Int.mul_pos hx hy) (h.1.mul g.1) (h.2.mul g.2)
theorem CapP.neg {k : Nat} {x : Int × Int} (h : CapP k x) (hx : 0 < x.2) : CapP k (negP x) := CapP.of_red hx h.1.neg h.2
theorem CapP.redS {k : Nat} {n d : Int} (h1 : Cap k n) (h2 : Cap k d) (h0 : d ≠ 0) : CapP k (redS n d) := by
  unfold Fra.redS
  split
  · exact CapP.of_red (by omega) h1.neg h2.neg
  · exact CapP.of_red (by omega) h1 h2

/-- what a function is told of a fraction that it is handed -/
def Arg (n d : ByteArray) (x : Int × Int) : Prop := raw n d = x ∧ n.size ≤ 100000 ∧ d.size ≤ 100000
theorem Arg.pos {n d : ByteArray} {x : Int × Int} (h : Arg n d x) : 0 < x.2 := by rw [← h.1]; exact raw_pos _ _
theorem Arg.cap {n d : ByteArray} {x : Int × Int} (h : Arg n d x) : CapP 100000 x := by rw [← h.1]; exact CapP.of_raw (by decide) h.2.1 h.2.2
theorem cD_size {k : Nat} {z : Int} (h : Cap k z) : (cD z).size ≤ k + 1 := by
  unfold cD
  split
  · exact Nat.zero_le _
  · exact cS_size h
theorem Arg.of {k : Nat} {p : Int × Int} (h : CapP k p) (hp : 0 < p.2) (hk : k ≤ 99999) : Arg (cS p.1) (cD p.2) p :=
  ⟨raw_can hp, by have := cS_size h.1; omega, by have := cD_size h.2; omega⟩
theorem Arg.given {n d : ByteArray} {x : Int × Int} (h : raw n d = x) (h1 : n.size ≤ 60) (h2 : d.size ≤ 60) : Arg n d x := ⟨h, by omega, by omega⟩
theorem Arg.zero : Arg ⟨#[]⟩ ⟨#[]⟩ (0, 1) := ⟨by decide +kernel, by decide, by decide⟩

/-- returns this fraction, and nothing that was there has changed -/
def FPost (w : World) (p : Int × Int) (e : Ending) (w' : World) : Prop := e = .returned (.agg #[.string (cS p.1), .string (cD p.2)]) ∧ Below w.heap.size w w'
/-- returns two strings with these values -/
def RatPost (w : World) (p : Int × Int) (k : Nat) (e : Ending) (w' : World) : Prop :=
  ∃ a b, e = .returned (.agg #[.string a, .string b]) ∧ vS a = p.1 ∧ vS b = p.2 ∧ a.size ≤ k ∧ b.size ≤ k ∧ Below w.heap.size w w'

end Go.Proofs.YtahnkmkmoalbhaaGreatDoor

/- The program's layer 2: isZero, whole, quotient, value, lowest, pack, canonical: the walks. -/
namespace Go.Proofs.YtahnkmkmoalbhaaGreatDoor
open Go.RowKit Fra

theorem eq_str (x y : ByteArray) (h : x ≠ y) : (x.toList == y.toList) = false := by rw [beq_toList]; simpa using h
theorem eq_nil (z : Int) : (cS z).toList.isEmpty = decide (z = 0) := by
  have e : (cS z).toList.isEmpty = ((cS z).toList == (ByteArray.mk #[]).toList) := by
    rw [show (ByteArray.mk #[]).toList = [] by decide +kernel]
    cases (cS z).toList <;> rfl
  rw [e, beq_toList]
  by_cases h : z = 0
  · subst h; decide +kernel
  · rw [decide_eq_false h, decide_eq_false_iff_not]
    exact fun e => h (cS_inj (e.trans cS_zero.symm))
theorem eq_one (z : Int) : ((cS z).toList == [49]) = decide (z = 1) := by
  rw [show [49] = (ByteArray.mk #[49]).toList by decide +kernel, beq_toList]
  by_cases h : z = 1
  · subst h; decide +kernel
  · rw [decide_eq_false h, decide_eq_false_iff_not]
    exact fun e => h (cS_inj (e.trans cS_one.symm))

set_option maxHeartbeats 400000 in
theorem fZero_any (s : ByteArray) (w : World) (hs : s.size ≤ 4294967296) :
    Calls Tryz.prog 103 #[.string s] w fun e w' => e = .returned (.bool (decide (vS s = 0))) ∧ w = w' := by
  have HZ := Lib.hid (eq_nil (vS s))
  go_enter Tryz.func103, Tryz.ntmps103
  go_wp2_with fail
  refine (canonical_any s w hs).mono ?_
  rintro e _ ⟨rfl, rfl⟩
  go_wp2_with fail
  go_ret
  exact ⟨by rw [← HZ.out]; rfl, rfl⟩

/-- two strings lie in block b -/
def PairAt (w : World) (b : Nat) (t : TypeId) (u v : ByteArray) : Prop := w.heap[b]? = some (.cells #[.string u, .string v] t (0, 0))
theorem PairAt.cells {w : World} {b : Nat} {t : TypeId} {u v : ByteArray} (h : PairAt w b t u v) : w.cell? ⟨b, 0, none⟩ = some (.string u) ∧ w.cell? ⟨b, 1, none⟩ = some (.string v) ∧ w.frozen? ⟨b, 0, none⟩ = false ∧ w.frozen? ⟨b, 1, none⟩ = false := by
  unfold PairAt at h
  exact ⟨by rw [cell_of_row w b 0 _ _ _ h]; rfl, by rw [cell_of_row w b 1 _ _ _ h]; rfl, frozen_of_row w b 0 _ _ h, frozen_of_row w b 1 _ _ h⟩
theorem PairAt.lt {w : World} {b : Nat} {t : TypeId} {u v : ByteArray} (h : PairAt w b t u v) : b < w.heap.size := by
  unfold PairAt at h
  rcases Nat.lt_or_ge b w.heap.size with h' | h'
  · exact h'
  · rw [Array.getElem?_eq_none h'] at h; simp at h
theorem PairAt.below {w w' : World} {b : Nat} {t : TypeId} {u v : ByteArray} (h : PairAt w b t u v) (hb : Below w.heap.size w w') : PairAt w' b t u v := by
  have hl := h.lt
  unfold PairAt at *; rw [hb.block b hl]; exact h
theorem PairAt.made (w : World) (t : TypeId) (u v : ByteArray) : PairAt (w.alloc (.cells #[.string u, .string v] t)) w.heap.size t u v := heap_alloc_new w _
theorem PairAt.alloc {w : World} {b : Nat} {t : TypeId} {u v : ByteArray} (h : PairAt w b t u v) (o : Obj) : PairAt (w.alloc o) b t u v := h.below ((Below.refl _ _).alloc (Nat.le_refl _) _)

theorem PairAt.put {W : World} {b : Nat} {t : TypeId} {x y : ByteArray} (h : PairAt W b t x y) (u v : ByteArray) : PairAt ((W.setCell ⟨b, 0, none⟩ (.string u)).setCell ⟨b, 1, none⟩ (.string v)) b t u v := by
  have h1 := heap_setCell_same W b 0 _ _ (.string u) h
  have h2 := heap_setCell_same (W.setCell ⟨b, 0, none⟩ (.string u)) b 1 _ _ (.string v) h1
  unfold PairAt; rw [h2]; rfl
/-- a box, and the variable of a result -/
structure Box1 (W : World) (B : Nat) (s t : TypeId) (a b : ByteArray) : Prop where
  x : PairAt W B s a b
  r : PairAt W (B + 1) t ⟨#[]⟩ ⟨#[]⟩
theorem Box1.below {W W' : World} {B : Nat} {s t : TypeId} {a b : ByteArray} (h : Box1 W B s t a b) (hb : Below W.heap.size W W') : Box1 W' B s t a b := ⟨h.x.below hb, h.r.below hb⟩
theorem Box1.made (w : World) (s t : TypeId) (a b : ByteArray) : Box1 ((w.alloc (.cells #[.string a, .string b] s)).alloc (.cells #[.string ⟨#[]⟩, .string ⟨#[]⟩] t)) w.heap.size s t a b := by
  refine ⟨(PairAt.made w s a b).alloc _, ?_⟩
  have := PairAt.made (w.alloc (.cells #[.string a, .string b] s)) t ⟨#[]⟩ ⟨#[]⟩
  simpa using this
theorem below_two (w : World) (o p : Obj) : Below w.heap.size w ((w.alloc o).alloc p) := ((Below.refl _ _).alloc (Nat.le_refl _) _).alloc (by simp) _
theorem below_put {w W : World} {b : Nat} (h : Below w.heap.size w W) (hb : w.heap.size ≤ b) (u v : Value) : Below w.heap.size w ((W.setCell ⟨b, 0, none⟩ u).setCell ⟨b, 1, none⟩ v) :=
  (h.setCell (p := ⟨b, 0, none⟩) hb _).setCell (p := ⟨b, 1, none⟩) hb _

set_option maxHeartbeats 400000 in
theorem fWhole_any (s : ByteArray) (w : World) :
    Calls Tryz.prog 106 #[.string s] w fun e w' => e = .returned (.agg #[.string s, .string ⟨#[49]⟩]) ∧ Below w.heap.size w w' := by
  go_enter Tryz.func106, Tryz.ntmps106
  go_wp2_with fail
  exact bodyPost_ret (v := .agg #[.string s, .string ⟨#[49]⟩]) (by simp [results, Tryz.results106, go_sem]) rfl ⟨rfl, (Below.refl _ w).alloc (Nat.le_refl _) _⟩

set_option maxRecDepth 100000 in
set_option maxHeartbeats 1000000 in
theorem fQuotient_any (n d : ByteArray) (w : World) (k : Nat) (hn : n.size + 1 ≤ k) (hd : d.size + 1 ≤ k) (hk : k ≤ 4294967295) (h0 : vS d ≠ 0) :
    Calls Tryz.prog 164 #[.string n, .string d] w (RatPost w (rawP (vS n) (vS d)) k) := by
  obtain ⟨W0, hW0⟩ : ∃ W0, W0 = w.alloc (.cells #[.string ⟨#[]⟩, .string ⟨#[]⟩] 124) := ⟨_, rfl⟩
  have hB0 : Below w.heap.size w W0 := by rw [hW0]; exact (Below.refl _ w).alloc (Nat.le_refl _) _
  have hP : PairAt W0 w.heap.size 124 ⟨#[]⟩ ⟨#[]⟩ := by rw [hW0]; exact PairAt.made _ _ _ _
  by_cases hl : vS d < 0
  · obtain ⟨e, he⟩ : ∃ e, e = cS (-vS n) := ⟨_, rfl⟩
    obtain ⟨g, hg⟩ : ∃ g, g = cS (-vS d) := ⟨_, rfl⟩
    have s1 : e.size ≤ k := by rw [he]; have := cS_size (z := -vS n) (k := n.size) (by rw [Int.natAbs_neg]; exact vS_lt n); omega
    have s2 : g.size ≤ k := by rw [hg]; have := cS_size (z := -vS d) (k := d.size) (by rw [Int.natAbs_neg]; exact vS_lt d); omega
    have HF := Lib.hid (show vS e = -vS n ∧ vS g = -vS d by rw [he, hg, vS_cS, vS_cS]; exact ⟨rfl, rfl⟩)
    have HE := Lib.hid he
    have HH := Lib.hid hg
    have HC := Lib.hid (cmp3_lt hl)
    have HR := Lib.hid (rawP_of_neg (n := vS n) hl)
    clear he hg
    go_enter Tryz.func164, Tryz.ntmps164
    go_wp2_with fail
    rw [← hW0]
    clear hW0
    refine (compare_v (x := vS d) (y := 0) (z := -1) _ (by omega) (by decide) rfl vS_nil HC.out).mono ?_
    rintro _ w1 ⟨rfl, hB1⟩
    have hB := hB0.trans (hB1.mono hB0.size)
    have hP1 := hP.below hB1
    obtain ⟨c1, c2, c3, c4⟩ := hP1.cells
    clear hB1 hB0
    go_wp2_with fail
    refine (neg_any n _ (by omega)).mono ?_
    rintro _ _ ⟨rfl, rfl⟩
    rw [← HE.out]
    go_wp2_with fail
    refine (neg_any d _ (by omega)).mono ?_
    rintro _ _ ⟨rfl, rfl⟩
    rw [← HH.out]
    go_wp2_with fail
    obtain ⟨k0, k1, _, _⟩ := (hP1.put e g).cells
    exact bodyPost_ret (v := .agg #[.string e, .string g]) (by simp [results, Tryz.results164, go_sem, k0, k1]) rfl ⟨e, g, rfl, by rw [HR.out]; exact HF.out.1, by rw [HR.out]; exact HF.out.2, s1, s2, below_put hB (Nat.le_refl _) _ _⟩
  · have HC := Lib.hid (cmp3_gt (show (0 : Int) < vS d by omega))
    have HR := Lib.hid (rawP_of_pos (n := vS n) (show (0 : Int) < vS d by omega))
    clear hl h0
    go_enter Tryz.func164, Tryz.ntmps164
    go_wp2_with fail
    rw [← hW0]
    clear hW0
    refine (compare_v (x := vS d) (y := 0) (z := 1) _ (by omega) (by decide) rfl vS_nil HC.out).mono ?_
    rintro _ w1 ⟨rfl, hB1⟩
    have hB := hB0.trans (hB1.mono hB0.size)
    have hP1 := hP.below hB1
    obtain ⟨c1, c2, c3, c4⟩ := hP1.cells
    clear hB1 hB0
    go_wp2_with fail
    obtain ⟨k0, k1, _, _⟩ := (hP1.put n d).cells
    exact bodyPost_ret (v := .agg #[.string n, .string d]) (by simp [results, Tryz.results164, go_sem, k0, k1]) rfl ⟨n, d, rfl, by rw [HR.out], by rw [HR.out], by omega, by omega, below_put hB (Nat.le_refl _) _ _⟩

end Go.Proofs.YtahnkmkmoalbhaaGreatDoor

/- The program's layer 2: value, lowest, pack, canonical: the walks. -/
namespace Go.Proofs.YtahnkmkmoalbhaaGreatDoor
open Go.RowKit Fra

theorem ediv_fdiv {a g : Int} (h : 0 < g) : Int.fdiv a g = a / g := Int.fdiv_eq_ediv_of_nonneg a (by omega)

set_option maxRecDepth 100000 in
set_option maxHeartbeats 1000000 in
theorem fLowest_v {a b : ByteArray} {x y : Int} (w : World) (hG : Ground w) (ha : a.size ≤ 4294967294) (hb : b.size ≤ 4294967294) (hx : vS a = x) (hy : vS b = y) (h0 : 0 < y) :
    Calls Tryz.prog 137 #[.agg #[.string a, .string b]] w fun e w' => e = .returned (.agg #[.string (cS (red x y).1), .string (cS (red x y).2)]) ∧ Below w.heap.size w w' := by
  obtain ⟨W0, hW0⟩ : ∃ W0, W0 = (w.alloc (.cells #[.string a, .string b] 124)).alloc (.cells #[.string ⟨#[]⟩, .string ⟨#[]⟩] 124) := ⟨_, rfl⟩
  have hB0 : Below w.heap.size w W0 := by rw [hW0]; exact below_two _ _ _
  have hX : Box1 W0 w.heap.size 124 124 a b := by rw [hW0]; exact Box1.made _ _ _ _ _
  obtain ⟨c1, c2, _, _⟩ := hX.x.cells
  have hg := gcd_pos (n := x) h0
  have hgs : (cS (Int.gcd x y : Int)).size ≤ 4294967295 := by
    have h1 : Int.gcd x y ≤ y.natAbs := Int.gcd_le_natAbs_right x (by omega)
    have h2 := vS_lt b
    rw [hy] at h2
    have := cS_size (z := (Int.gcd x y : Int)) (k := b.size) (by omega)
    omega
  have HX := Lib.hid hx
  have HY := Lib.hid hy
  have HG := Lib.hid hg
  have HS := Lib.hid hgs
  clear hx hy hg hgs h0
  go_enter Tryz.func137, Tryz.ntmps137
  go_wp2_with fail
  rw [← hW0]
  clear hW0
  refine (gcd_v (x := x) (y := y) _ (hG.below hB0) (by omega) (by omega) HX.out HY.out rfl).mono ?_
  rintro _ w1 ⟨rfl, hB1⟩
  have hX1 := hX.below hB1
  have hB := hB0.trans (hB1.mono hB0.size)
  obtain ⟨d1, d2, _, _⟩ := hX1.x.cells
  clear hB1 hB0 c1 c2
  go_wp2_with fail
  refine (div_v (x := x) (y := (Int.gcd x y : Int)) (q := (red x y).1) _ (hG.below hB) (by omega) HS.out HX.out (vS_cS _) (by have := HG.out; omega) (ediv_fdiv HG.out) rfl).mono ?_
  rintro _ w2 ⟨rfl, hB2⟩
  have hX2 := hX1.below hB2
  have hB' := hB.trans (hB2.mono hB.size)
  obtain ⟨e1, e2, _, _⟩ := hX2.x.cells
  clear hB2 hB d1 d2
  go_wp2_with fail
  refine (div_v (x := y) (y := (Int.gcd x y : Int)) (q := (red x y).2) _ (hG.below hB') (by omega) HS.out HY.out (vS_cS _) (by have := HG.out; omega) (ediv_fdiv HG.out) rfl).mono ?_
  rintro _ w3 ⟨rfl, hB3⟩
  have hX3 := hX2.below hB3
  have hB := hB'.trans (hB3.mono hB'.size)
  obtain ⟨f1, f2, f3, f4⟩ := hX3.r.cells
  clear hB3 hB' e1 e2
  go_wp2_with fail
  obtain ⟨k0, k1, _, _⟩ := (hX3.r.put (cS (red x y).1) (cS (red x y).2)).cells
  exact bodyPost_ret (v := .agg #[.string (cS (red x y).1), .string (cS (red x y).2)]) (by simp [results, Tryz.results137, go_sem, k0, k1]) rfl ⟨rfl, below_put hB (by omega) _ _⟩

set_option maxRecDepth 100000 in
set_option maxHeartbeats 1000000 in
theorem fPack_any (p : Int × Int) (w : World) :
    Calls Tryz.prog 136 #[.agg #[.string (cS p.1), .string (cS p.2)]] w (FPost w p) := by
  obtain ⟨n, hn⟩ : ∃ n, n = cS p.1 := ⟨_, rfl⟩
  by_cases h0 : p.2 = 1
  · have HD := Lib.hid (show cD p.2 = ⟨#[]⟩ by rw [h0, cD_one])
    rw [show cS p.2 = ⟨#[49]⟩ by rw [h0, cS_one], ← hn]
    have HN := Lib.hid hn
    clear h0 hn
    go_enter Tryz.func136, Tryz.ntmps136
    go_wp2_with fail
    exact bodyPost_ret (v := .agg #[.string n, .string ⟨#[]⟩]) (by simp [results, Tryz.results136, go_sem]) rfl ⟨by rw [HD.out, ← HN.out], below_two _ _ _⟩
  · have HD := Lib.hid (show cD p.2 = cS p.2 by unfold cD; rw [if_neg h0])
    have h1 : ((cS p.2).toList == [49]) = false := by rw [eq_one]; exact decide_eq_false h0
    obtain ⟨m, hm⟩ : ∃ m, m = cS p.2 := ⟨_, rfl⟩
    rw [← hm] at h1
    rw [← hn, ← hm]
    have HN := Lib.hid hn
    have HM := Lib.hid hm
    clear h0 hn hm
    go_enter Tryz.func136, Tryz.ntmps136
    go_wp2_with fail
    exact bodyPost_ret (v := .agg #[.string n, .string m]) (by simp [results, Tryz.results136, go_sem]) rfl ⟨by rw [HD.out, ← HN.out, ← HM.out], below_two _ _ _⟩

set_option maxRecDepth 100000 in
set_option maxHeartbeats 1000000 in
theorem fCanonical_v {a b : ByteArray} {x y : Int} (w : World) (hG : Ground w) (ha : a.size ≤ 4294967294) (hb : b.size ≤ 4294967294) (hx : vS a = x) (hy : vS b = y) (h0 : 0 < y) :
    Calls Tryz.prog 104 #[.agg #[.string a, .string b]] w (FPost w (red x y)) := by
  obtain ⟨W0, hW0⟩ : ∃ W0, W0 = (w.alloc (.cells #[.string a, .string b] 124)).alloc (.cells #[.string ⟨#[]⟩, .string ⟨#[]⟩] 59) := ⟨_, rfl⟩
  have hB0 : Below w.heap.size w W0 := by rw [hW0]; exact below_two _ _ _
  have hX : Box1 W0 w.heap.size 124 59 a b := by rw [hW0]; exact Box1.made _ _ _ _ _
  obtain ⟨c1, c2, _, _⟩ := hX.x.cells
  have HX := Lib.hid hx
  have HY := Lib.hid hy
  have H0 := Lib.hid h0
  clear hx hy h0
  go_enter Tryz.func104, Tryz.ntmps104
  go_wp2_with fail
  rw [← hW0]
  clear hW0
  refine (fLowest_v _ (hG.below hB0) ha hb HX.out HY.out H0.out).mono ?_
  rintro _ w1 ⟨rfl, hB1⟩
  have hX1 := hX.below hB1
  have hB := hB0.trans (hB1.mono hB0.size)
  clear hB1 hB0 c1 c2
  go_wp2_with fail
  refine (fPack_any _ w1).mono ?_
  rintro _ w2 ⟨rfl, hB2⟩
  have hX2 := hX1.below hB2
  have hB' := hB.trans (hB2.mono hB.size)
  obtain ⟨f1, f2, f3, f4⟩ := hX2.r.cells
  clear hB2 hB
  go_wp2_with fail
  obtain ⟨k0, k1, _, _⟩ := (hX2.r.put (cS (red x y).1) (cD (red x y).2)).cells
  exact bodyPost_ret (v := .agg #[.string (cS (red x y).1), .string (cD (red x y).2)]) (by simp [results, Tryz.results104, go_sem, k0, k1]) rfl ⟨rfl, below_put hB' (by omega) _ _⟩

end Go.Proofs.YtahnkmkmoalbhaaGreatDoor

/- The program's layer 2: add, subtract, multiply, divide: the walks. -/
namespace Go.Proofs.YtahnkmkmoalbhaaGreatDoor
open Go.RowKit Fra

/-- two boxes, and the variable of a result, behind some calls -/
structure St2 (w W : World) (s t : TypeId) (a b c d : ByteArray) : Prop where
  g : Ground W
  x : PairAt W w.heap.size s a b
  y : PairAt W (w.heap.size + 1) s c d
  r : PairAt W (w.heap.size + 1 + 1) t ⟨#[]⟩ ⟨#[]⟩
  below : Below w.heap.size w W
theorem St2.next {w W W1 : World} {s t : TypeId} {a b c d : ByteArray} (h : St2 w W s t a b c d) (hb : Below W.heap.size W W1) : St2 w W1 s t a b c d :=
  ⟨h.g.below hb, h.x.below hb, h.y.below hb, h.r.below hb, h.below.trans (hb.mono h.below.size)⟩
theorem St2.drewN {w W : World} {s t : TypeId} {a b c d : ByteArray} (h : St2 w W s t a b c d) (q : Nat) : St2 w (W.drewN q) s t a b c d :=
  ⟨⟨h.g.tab, h.g.max⟩, h.x, h.y, h.r, below_drewN h.below q⟩
theorem St2.drew {w W : World} {s t : TypeId} {a b c d : ByteArray} (h : St2 w W s t a b c d) : St2 w W.drew s t a b c d := h.drewN 1
theorem St2.next1 {w W W1 : World} {s t : TypeId} {a b c d : ByteArray} (h : St2 w W s t a b c d) (hb : Below W.drew.heap.size W.drew W1) : St2 w W1 s t a b c d := h.drew.next hb
theorem St2.nextD {w W W1 : World} {s t : TypeId} {a b c d : ByteArray} {q : Nat} (h : St2 w W s t a b c d) (hb : Below (W.drewN q).heap.size (W.drewN q) W1) : St2 w W1 s t a b c d := (h.drewN q).next hb
theorem St2.made {w : World} (hG : Ground w) (s t : TypeId) (a b c d : ByteArray) :
    St2 w (((w.alloc (.cells #[.string a, .string b] s)).alloc (.cells #[.string c, .string d] s)).alloc (.cells #[.string ⟨#[]⟩, .string ⟨#[]⟩] t)) s t a b c d := by
  have hB : Below w.heap.size w (((w.alloc (.cells #[.string a, .string b] s)).alloc (.cells #[.string c, .string d] s)).alloc (.cells #[.string ⟨#[]⟩, .string ⟨#[]⟩] t)) := (((Below.refl _ _).alloc (Nat.le_refl _) _).alloc (by simp) _).alloc (by simp; omega) _
  refine ⟨hG.below hB, ((PairAt.made w s a b).alloc _).alloc _, ?_, ?_, hB⟩
  · have := (PairAt.made (w.alloc (.cells #[.string a, .string b] s)) s c d).alloc (.cells #[.string ⟨#[]⟩, .string ⟨#[]⟩] t)
    simpa using this
  · have := PairAt.made ((w.alloc (.cells #[.string a, .string b] s)).alloc (.cells #[.string c, .string d] s)) t ⟨#[]⟩ ⟨#[]⟩
    simpa using this
theorem St2.cells {w W : World} {s t : TypeId} {a b c d : ByteArray} (h : St2 w W s t a b c d) :
    W.cell? ⟨w.heap.size, 0, none⟩ = some (.string a) ∧ W.cell? ⟨w.heap.size, 1, none⟩ = some (.string b) ∧ W.cell? ⟨w.heap.size + 1, 0, none⟩ = some (.string c) ∧ W.cell? ⟨w.heap.size + 1, 1, none⟩ = some (.string d) ∧
    W.cell? ⟨w.heap.size + 1 + 1, 0, none⟩ = some (.string ⟨#[]⟩) ∧ W.cell? ⟨w.heap.size + 1 + 1, 1, none⟩ = some (.string ⟨#[]⟩) ∧ W.frozen? ⟨w.heap.size + 1 + 1, 0, none⟩ = false ∧ W.frozen? ⟨w.heap.size + 1 + 1, 1, none⟩ = false := by
  obtain ⟨x0, x1, _, _⟩ := h.x.cells
  obtain ⟨y0, y1, _, _⟩ := h.y.cells
  obtain ⟨r0, r1, r2, r3⟩ := h.r.cells
  exact ⟨x0, x1, y0, y1, r0, r1, r2, r3⟩

set_option maxRecDepth 100000 in
set_option maxHeartbeats 4000000 in
theorem rMulRatio_v {a b c d : ByteArray} {x1 x2 y1 y2 : Int} (w : World) (hG : Ground w) (ha : a.size ≤ 1000000000) (hb : b.size ≤ 1000000000) (hc : c.size ≤ 1000000000) (hd : d.size ≤ 1000000000)
    (h1 : vS a = x1) (h2 : vS b = x2) (h3 : vS c = y1) (h4 : vS d = y2) :
    Calls Tryz.prog 140 #[.agg #[.string a, .string b], .agg #[.string c, .string d]] w fun e w' => e = .returned (.agg #[.string (cS (x1 * y1)), .string (cS (x2 * y2))]) ∧ Below w.heap.size w w' := by
  obtain ⟨W0, hW0⟩ : ∃ W0, W0 = ((w.alloc (.cells #[.string a, .string b] 124)).alloc (.cells #[.string c, .string d] 124)).alloc (.cells #[.string ⟨#[]⟩, .string ⟨#[]⟩] 124) := ⟨_, rfl⟩
  have hS : St2 w W0 124 124 a b c d := by rw [hW0]; exact St2.made hG _ _ _ _ _ _
  obtain ⟨c0, c1, c2, c3, c4, c5, c6, c7⟩ := hS.cells
  have hn1 : w.heap.size + 1 + 1 ≠ w.heap.size := by omega
  have HS := Lib.hid hS
  have H1 := Lib.hid h1
  have H2 := Lib.hid h2
  have H3 := Lib.hid h3
  have H4 := Lib.hid h4
  clear h1 h2 h3 h4 hS hG
  go_enter Tryz.func140, Tryz.ntmps140
  go_wp2_with fail
  rw [← hW0]
  clear hW0
  go_region_held3 (fun w' => w'.cell? ⟨w.heap.size, 0, none⟩ = some (.string a) ∧ w'.cell? ⟨w.heap.size, 1, none⟩ = some (.string b) ∧ w'.cell? ⟨w.heap.size + 1, 0, none⟩ = some (.string c) ∧ w'.cell? ⟨w.heap.size + 1, 1, none⟩ = some (.string d))
    (go_keep)
    (first
    | (go_at_call 90;
         (first
           | (with_reducible refine Calls.mono (mul_v (a := a) (b := c) (x := x1) (y := y1) (z := x1 * y1) _ (by first | exact HS.out.g | exact HS.out.drew.g | exact (HS.out.drewN _).g) (by omega) (by omega) H1.out H3.out rfl) ?_)
           | (with_reducible refine Calls.mono (mul_v (a := b) (b := d) (x := x2) (y := y2) (z := x2 * y2) _ (by first | exact HS.out.g | exact HS.out.drew.g | exact (HS.out.drewN _).g) (by omega) (by omega) H2.out H4.out rfl) ?_));
         (rintro e W1 ⟨rfl, hB1⟩);
         (have HS2 : St2 w W1 _ _ a b c d := (by first | exact HS.out.next hB1 | exact HS.out.next1 hB1 | exact HS.out.nextD hB1));
         (replace HS := Lib.hid HS2);
         (clear hB1 HS2);
         (obtain ⟨c0, c1, c2, c3, c4, c5, c6, c7⟩ := HS.out.cells)))
  all_goals go_wp2_with fail
  all_goals obtain ⟨k0, k1, _, _⟩ := (HS.out.r.put (cS (x1 * y1)) (cS (x2 * y2))).cells
  all_goals exact bodyPost_ret (v := .agg #[.string (cS (x1 * y1)), .string (cS (x2 * y2))]) (by simp [results, Tryz.results140, go_sem, k0, k1]) rfl ⟨rfl, below_put HS.out.below (by omega) _ _⟩

set_option maxRecDepth 100000 in
set_option maxHeartbeats 4000000 in
theorem rDivRatio_v {a b c d : ByteArray} {x1 x2 y1 y2 : Int} (w : World) (hG : Ground w) (ha : a.size ≤ 1000000000) (hb : b.size ≤ 1000000000) (hc : c.size + 1 ≤ 1000000000) (hd : d.size + 1 ≤ 1000000000)
    (h1 : vS a = x1) (h2 : vS b = x2) (h3 : vS c = y1) (h4 : vS d = y2) (h0 : y1 ≠ 0) :
    Calls Tryz.prog 141 #[.agg #[.string a, .string b], .agg #[.string c, .string d]] w fun e w' => e = .returned (.agg #[.string (cS (x1 * (rawP y2 y1).1)), .string (cS (x2 * (rawP y2 y1).2))]) ∧ Below w.heap.size w w' := by
  obtain ⟨W0, hW0⟩ : ∃ W0, W0 = ((w.alloc (.cells #[.string a, .string b] 124)).alloc (.cells #[.string c, .string d] 124)).alloc (.cells #[.string ⟨#[]⟩, .string ⟨#[]⟩] 124) := ⟨_, rfl⟩
  have hS : St2 w W0 124 124 a b c d := by rw [hW0]; exact St2.made hG _ _ _ _ _ _
  obtain ⟨c0, c1, c2, c3, c4, c5, c6, c7⟩ := hS.cells
  have hn1 : w.heap.size + 1 + 1 ≠ w.heap.size := by omega
  have HZ := Lib.hid (show vS c ≠ 0 by rw [h3]; exact h0)
  have HS := Lib.hid hS
  have H1 := Lib.hid h1
  have H2 := Lib.hid h2
  have H3 := Lib.hid h3
  have H4 := Lib.hid h4
  clear h1 h2 h3 h4 hS hG
  go_enter Tryz.func141, Tryz.ntmps141
  go_wp2_with fail
  rw [← hW0]
  clear hW0
  go_region_held3 (fun w' => w'.cell? ⟨w.heap.size, 0, none⟩ = some (.string a) ∧ w'.cell? ⟨w.heap.size, 1, none⟩ = some (.string b) ∧ w'.cell? ⟨w.heap.size + 1, 0, none⟩ = some (.string c) ∧ w'.cell? ⟨w.heap.size + 1, 1, none⟩ = some (.string d))
    (go_keep)
    (first
    | (go_at_call 164;
         (first
           | (with_reducible refine Calls.mono (fQuotient_any d c _ 1000000000 hd hc (by decide) HZ.out) ?_));
         (rintro e W1 ⟨p, q, rfl, e1, e2, e3, e4, hB1⟩);
         (have HP := Lib.hid (show vS p = (rawP y2 y1).1 by rw [e1, H3.out, H4.out]));
         (have HQ := Lib.hid (show vS q = (rawP y2 y1).2 by rw [e2, H3.out, H4.out]));
         (have HS2 : St2 w W1 _ _ a b c d := (by first | exact HS.out.next hB1 | exact HS.out.next1 hB1 | exact HS.out.nextD hB1));
         (replace HS := Lib.hid HS2);
         (clear hB1 HS2 e1 e2);
         (obtain ⟨c0, c1, c2, c3, c4, c5, c6, c7⟩ := HS.out.cells))
    | (go_at_call 140;
         (first
           | (with_reducible refine Calls.mono (rMulRatio_v (a := a) (b := b) (c := p) (d := q) (x1 := x1) (x2 := x2) _ (by first | exact HS.out.g | exact HS.out.drew.g | exact (HS.out.drewN _).g) ha hb e3 e4 H1.out H2.out HP.out HQ.out) ?_));
         (rintro e W1 ⟨rfl, hB1⟩);
         (have HS2 : St2 w W1 _ _ a b c d := (by first | exact HS.out.next hB1 | exact HS.out.next1 hB1 | exact HS.out.nextD hB1));
         (replace HS := Lib.hid HS2);
         (clear hB1 HS2);
         (obtain ⟨c0, c1, c2, c3, c4, c5, c6, c7⟩ := HS.out.cells)))
  all_goals go_wp2_with fail
  all_goals obtain ⟨k0, k1, _, _⟩ := (HS.out.r.put (cS (x1 * (rawP y2 y1).1)) (cS (x2 * (rawP y2 y1).2))).cells
  all_goals exact bodyPost_ret (v := .agg #[.string (cS (x1 * (rawP y2 y1).1)), .string (cS (x2 * (rawP y2 y1).2))]) (by simp [results, Tryz.results141, go_sem, k0, k1]) rfl ⟨rfl, below_put HS.out.below (by omega) _ _⟩

end Go.Proofs.YtahnkmkmoalbhaaGreatDoor

/- The program's layer 2: apply: the walks. -/
namespace Go.Proofs.YtahnkmkmoalbhaaGreatDoor
open Go.RowKit Fra

/-- the table of the operations lies in block b -/
def FunsAt (W : World) (b : Nat) (p q r s : Value) : Prop := W.heap[b]? = some (.cells #[p, q, r, s] 160 (0, 0))
theorem FunsAt.cells {W : World} {b : Nat} {p q r s : Value} (h : FunsAt W b p q r s) : W.cell? ⟨b, 0, none⟩ = some p ∧ W.cell? ⟨b, 1, none⟩ = some q ∧ W.cell? ⟨b, 2, none⟩ = some r ∧ W.cell? ⟨b, 3, none⟩ = some s ∧
    W.frozen? ⟨b, 0, none⟩ = false ∧ W.frozen? ⟨b, 1, none⟩ = false ∧ W.frozen? ⟨b, 2, none⟩ = false ∧ W.frozen? ⟨b, 3, none⟩ = false := by
  unfold FunsAt at h
  exact ⟨by rw [cell_of_row W b 0 _ _ _ h]; rfl, by rw [cell_of_row W b 1 _ _ _ h]; rfl, by rw [cell_of_row W b 2 _ _ _ h]; rfl, by rw [cell_of_row W b 3 _ _ _ h]; rfl, frozen_of_row W b 0 _ _ h, frozen_of_row W b 1 _ _ h, frozen_of_row W b 2 _ _ h, frozen_of_row W b 3 _ _ h⟩
theorem FunsAt.made (W : World) (p q r s : Value) : FunsAt (W.alloc (.cells #[p, q, r, s] 160)) W.heap.size p q r s := heap_alloc_new W _

/-- the boxes of apply and its table of operations, behind some calls -/
structure StA (w W : World) (N : Nat) (a b c d : ByteArray) : Prop where
  st : St2 w W 59 124 a b c d
  tab : FunsAt W N (.func (.func 138) #[] #[]) (.func (.func 139) #[] #[]) (.func (.func 140) #[] #[]) (.func (.func 141) #[] #[])
theorem FunsAt.below {W W' : World} {b : Nat} {p q r s : Value} (h : FunsAt W b p q r s) (hb : Below W.heap.size W W') : FunsAt W' b p q r s := by
  unfold FunsAt at *
  have hl : b < W.heap.size := by
    rcases Nat.lt_or_ge b W.heap.size with h' | h'
    · exact h'
    · rw [Array.getElem?_eq_none h'] at h; simp at h
  rw [hb.block b hl]; exact h
theorem StA.next {w W W1 : World} {N : Nat} {a b c d : ByteArray} (h : StA w W N a b c d) (hb : Below W.heap.size W W1) : StA w W1 N a b c d := ⟨h.st.next hb, h.tab.below hb⟩
theorem StA.drewN {w W : World} {N : Nat} {a b c d : ByteArray} (h : StA w W N a b c d) (q : Nat) : StA w (W.drewN q) N a b c d := ⟨h.st.drewN q, h.tab⟩
theorem StA.drew {w W : World} {N : Nat} {a b c d : ByteArray} (h : StA w W N a b c d) : StA w W.drew N a b c d := h.drewN 1
theorem StA.next1 {w W W1 : World} {N : Nat} {a b c d : ByteArray} (h : StA w W N a b c d) (hb : Below W.drew.heap.size W.drew W1) : StA w W1 N a b c d := h.drew.next hb
theorem StA.nextD {w W W1 : World} {N q : Nat} {a b c d : ByteArray} (h : StA w W N a b c d) (hb : Below (W.drewN q).heap.size (W.drewN q) W1) : StA w W1 N a b c d := (h.drewN q).next hb
theorem StA.made {w W0 : World} {a b c d : ByteArray} (h : St2 w W0 59 124 a b c d) :
    StA w (W0.alloc (.cells #[.func (.func 138) #[] #[], .func (.func 139) #[] #[], .func (.func 140) #[] #[], .func (.func 141) #[] #[]] 160)) W0.heap.size a b c d :=
  ⟨h.next ((Below.refl _ _).alloc (Nat.le_refl _) _), FunsAt.made _ _ _ _ _⟩
end Go.Proofs.YtahnkmkmoalbhaaGreatDoor

/- The program's layer 2: apply at integers, Add, Sub, Mul, Neg, Of, New, Quo: the walks. -/
namespace Go.Proofs.YtahnkmkmoalbhaaGreatDoor
open Go.RowKit Fra

/-- the variable of a result and the table of operations, behind some calls -/
structure StI (w W : World) (N : Nat) : Prop where
  g : Ground W
  r : PairAt W w.heap.size 124 ⟨#[]⟩ ⟨#[]⟩
  tab : FunsAt W N (.func (.func 138) #[] #[]) (.func (.func 139) #[] #[]) (.func (.func 140) #[] #[]) (.func (.func 141) #[] #[])
  below : Below w.heap.size w W
theorem StI.next {w W W1 : World} {N : Nat} (h : StI w W N) (hb : Below W.heap.size W W1) : StI w W1 N := ⟨h.g.below hb, h.r.below hb, h.tab.below hb, h.below.trans (hb.mono h.below.size)⟩
theorem StI.drewN {w W : World} {N : Nat} (h : StI w W N) (q : Nat) : StI w (W.drewN q) N := ⟨⟨h.g.tab, h.g.max⟩, h.r, h.tab, below_drewN h.below q⟩
theorem StI.drew {w W : World} {N : Nat} (h : StI w W N) : StI w W.drew N := h.drewN 1
theorem StI.next1 {w W W1 : World} {N : Nat} (h : StI w W N) (hb : Below W.drew.heap.size W.drew W1) : StI w W1 N := h.drew.next hb
theorem StI.nextD {w W W1 : World} {N q : Nat} (h : StI w W N) (hb : Below (W.drewN q).heap.size (W.drewN q) W1) : StI w W1 N := (h.drewN q).next hb

set_option maxRecDepth 100000 in
set_option maxHeartbeats 4000000 in
theorem fApplyInt_any (n d : ByteArray) (w : World) (hG : Ground w) (hn : n.size ≤ 100000) (hd : d.size ≤ 100000) (h0 : vS d ≠ 0) :
    Calls Tryz.prog 105 #[.int .i64 3, .func (.func 106) #[] #[], .string n, .string d] w fun e w' => e = .returned (.agg #[.string (cS (vS n * (rawP 1 (vS d)).1)), .string (cS (rawP 1 (vS d)).2)]) ∧ Below w.heap.size w w' := by
  obtain ⟨W0, hW0⟩ : ∃ W0, W0 = w.alloc (.cells #[.string ⟨#[]⟩, .string ⟨#[]⟩] 124) := ⟨_, rfl⟩
  have hB0 : Below w.heap.size w W0 := by rw [hW0]; exact (Below.refl _ _).alloc (Nat.le_refl _) _
  have hP : PairAt W0 w.heap.size 124 ⟨#[]⟩ ⟨#[]⟩ := by rw [hW0]; exact PairAt.made _ _ _ _
  go_enter Tryz.func105, Tryz.ntmps105
  go_upto_region 1 with fail
  rw [← hW0]
  have hn2 : w.heap.size ≠ W0.heap.size := by rw [hW0]; simp
  clear hW0
  go_upto_region 2 with fail
  obtain ⟨N, hN⟩ : ∃ N, N = W0.heap.size := ⟨_, rfl⟩
  obtain ⟨WW, hWW⟩ : ∃ WW, WW = W0.alloc (.cells #[.func (.func 138) #[] #[], .func (.func 139) #[] #[], .func (.func 140) #[] #[], .func (.func 141) #[] #[]] 160) := ⟨_, rfl⟩
  have hBW : Below W0.heap.size W0 WW := by rw [hWW]; exact (Below.refl _ _).alloc (Nat.le_refl _) _
  have hS : StI w WW N := ⟨hG.below (hB0.trans (hBW.mono hB0.size)), hP.below hBW, by rw [hWW, hN]; exact FunsAt.made _ _ _ _ _, hB0.trans (hBW.mono hB0.size)⟩
  rw [← hN] at hn2
  rw [← hN, ← hWW]
  clear hN hWW hBW hB0 hP
  obtain ⟨_, _, _, g3, _, _, _, _⟩ := hS.tab.cells
  obtain ⟨r0, r1, r2, r3⟩ := hS.r.cells
  have HS := Lib.hid hS
  have H0 := Lib.hid h0
  clear hS hG h0
  go_region_held3 (fun w' => w'.cell? ⟨N, 3, none⟩ = some (.func (.func 141) #[] #[]))
    (go_keep)
    (first
    | (go_at_call 106;
         (with_reducible refine Calls.mono (fWhole_any _ _) ?_);
         (rintro e W1 ⟨rfl, hB1⟩);
         (have HS2 : StI w W1 N := (by first | exact HS.out.next hB1 | exact HS.out.next1 hB1 | exact HS.out.nextD hB1));
         (replace HS := Lib.hid HS2);
         (clear hB1 HS2);
         (obtain ⟨_, _, _, g3, _, _, _, _⟩ := HS.out.tab.cells);
         (obtain ⟨r0, r1, r2, r3⟩ := HS.out.r.cells))
    | (go_at_call 141;
         (with_reducible refine Calls.mono (rDivRatio_v (a := n) (b := ⟨#[49]⟩) (c := d) (d := ⟨#[49]⟩) (x1 := vS n) (x2 := 1) (y1 := vS d) (y2 := 1) _ (by first | exact HS.out.g | exact HS.out.drew.g | exact (HS.out.drewN _).g) (by omega) (by decide) (by omega) (by decide) rfl vS_one rfl vS_one H0.out) ?_);
         (rintro e W1 ⟨rfl, hB1⟩);
         (have HS2 : StI w W1 N := (by first | exact HS.out.next hB1 | exact HS.out.next1 hB1 | exact HS.out.nextD hB1));
         (replace HS := Lib.hid HS2);
         (clear hB1 HS2);
         (obtain ⟨_, _, _, g3, _, _, _, _⟩ := HS.out.tab.cells);
         (obtain ⟨r0, r1, r2, r3⟩ := HS.out.r.cells)))
  all_goals go_wp2_with fail
  all_goals obtain ⟨k0, k1, _, _⟩ := (HS.out.r.put (cS (vS n * (rawP 1 (vS d)).1)) (cS (rawP 1 (vS d)).2)).cells
  all_goals exact bodyPost_ret (v := .agg #[.string (cS (vS n * (rawP 1 (vS d)).1)), .string (cS (rawP 1 (vS d)).2)]) (by simp [results, Tryz.results105, go_sem, k0, k1]) rfl ⟨rfl, below_put HS.out.below (Nat.le_refl _) _ _⟩

theorem size_of {k : Nat} {z : Int} (h : Cap k z) (hk : k ≤ 4294967293) : (cS z).size ≤ 4294967294 := by have := cS_size h; omega

end Go.Proofs.YtahnkmkmoalbhaaGreatDoor

/- The program's layer 2: Neg, Of, New, Quo, Compare: the walks. -/
namespace Go.Proofs.YtahnkmkmoalbhaaGreatDoor
open Go.RowKit Fra

/-- a box, and the variable of a result, behind some calls -/
structure St1 (w W : World) (s t : TypeId) (a b : ByteArray) : Prop where
  g : Ground W
  x : PairAt W w.heap.size s a b
  r : PairAt W (w.heap.size + 1) t ⟨#[]⟩ ⟨#[]⟩
  below : Below w.heap.size w W
theorem St1.next {w W W1 : World} {s t : TypeId} {a b : ByteArray} (h : St1 w W s t a b) (hb : Below W.heap.size W W1) : St1 w W1 s t a b :=
  ⟨h.g.below hb, h.x.below hb, h.r.below hb, h.below.trans (hb.mono h.below.size)⟩
theorem St1.made {w : World} (hG : Ground w) (s t : TypeId) (a b : ByteArray) : St1 w ((w.alloc (.cells #[.string a, .string b] s)).alloc (.cells #[.string ⟨#[]⟩, .string ⟨#[]⟩] t)) s t a b :=
  ⟨hG.below (below_two _ _ _), (Box1.made w s t a b).x, (Box1.made w s t a b).r, below_two _ _ _⟩

theorem raw_nil : raw ⟨#[]⟩ ⟨#[]⟩ = (0, 1) := by decide +kernel
theorem red_one (x : Int) : red x 1 = (x, 1) := red_lowest (by simp)
theorem new_red {n y : Int} (h : y ≠ 0) : red (n * (rawP 1 y).1) (rawP 1 y).2 = redS n y := by
  unfold rawP redS
  rw [if_neg h]
  split
  · show red (n * -1) (-y) = _; rw [Int.mul_neg, Int.mul_one]
  · show red (n * 1) y = _; rw [Int.mul_one]
theorem CapP.of_rawP {k : Nat} {n d : Int} (hk : 1 ≤ k) (c1 : Cap k n) (c2 : Cap k d) : CapP k (rawP n d) := by
  unfold rawP
  split
  · exact ⟨c1, Cap.one hk⟩
  · split
    · exact ⟨c1.neg, c2.neg⟩
    · exact ⟨c1, c2⟩

set_option maxRecDepth 100000 in
set_option maxHeartbeats 2000000 in
theorem fNew_any (n d : ByteArray) (w : World) (hG : Ground w) (hn : n.size ≤ 100000) (hd : d.size ≤ 100000) (h0 : vS d ≠ 0) :
    Calls Tryz.prog 75 #[.string n, .string d] w fun e w' => e = .returned (.tuple #[.agg #[.string (cS (redS (vS n) (vS d)).1), .string (cD (redS (vS n) (vS d)).2)], .int .i64 0]) ∧ Below w.heap.size w w' := by
  have HD := Lib.hid (decide_eq_false h0)
  have H0 := Lib.hid h0
  have cr := CapP.of_rawP (k := 100000) (n := 1) (by decide) (Cap.one (by decide)) (Cap.of hd rfl)
  have HU := Lib.hid (show (cS (vS n * (rawP 1 (vS d)).1)).size ≤ 4294967294 from size_of (Cap.mul (Cap.of hn rfl) cr.1) (by decide))
  have HV := Lib.hid (show (cS (rawP 1 (vS d)).2).size ≤ 4294967294 from size_of cr.2 (by decide))
  have HE := Lib.hid (new_red (n := vS n) h0)
  clear h0 cr
  obtain ⟨W0, hW0⟩ : ∃ W0, W0 = w.alloc (.cells #[.string ⟨#[]⟩, .string ⟨#[]⟩] 59) := ⟨_, rfl⟩
  have hB0 : Below w.heap.size w W0 := by rw [hW0]; exact (Below.refl _ _).alloc (Nat.le_refl _) _
  have hP : PairAt W0 w.heap.size 59 ⟨#[]⟩ ⟨#[]⟩ := by rw [hW0]; exact PairAt.made _ _ _ _
  go_enter Tryz.func75, Tryz.ntmps75
  go_wp2_with fail
  rw [← hW0]
  clear hW0
  refine (fZero_any d _ (by omega)).mono ?_
  rintro _ _ ⟨rfl, rfl⟩
  rw [HD.out]
  go_wp2_with fail
  refine (fApplyInt_any n d W0 (hG.below hB0) hn hd H0.out).mono ?_
  rintro _ w1 ⟨rfl, hB1⟩
  have hP1 := hP.below hB1
  have hB := hB0.trans (hB1.mono hB0.size)
  clear hB1 hB0 hP
  go_wp2_with fail
  refine (show Calls _ _ _ w1 (FPost w1 (redS (vS n) (vS d))) from by have := fCanonical_v w1 (hG.below hB) HU.out HV.out (vS_cS _) (vS_cS _) (rawP_pos _ _); rwa [HE.out] at this).mono ?_
  rintro _ w2 ⟨rfl, hB2⟩
  have hP2 := hP1.below hB2
  have hB' := hB.trans (hB2.mono hB.size)
  clear hB2 hB hP1
  obtain ⟨c4, c5, c6, c7⟩ := hP2.cells
  go_wp2_with fail
  obtain ⟨k0, k1, _, _⟩ := (hP2.put (cS (redS (vS n) (vS d)).1) (cD (redS (vS n) (vS d)).2)).cells
  exact bodyPost_ret (v := .tuple #[.agg #[.string (cS (redS (vS n) (vS d)).1), .string (cD (redS (vS n) (vS d)).2)], .int .i64 0]) (by simp [results, Tryz.results75, go_sem, k0, k1]) rfl ⟨rfl, below_put hB' (Nat.le_refl _) _ _⟩

end Go.Proofs.YtahnkmkmoalbhaaGreatDoor

/- The program's layer 2: Quo, Compare, Floor, Parts, Check: the walks. -/
namespace Go.Proofs.YtahnkmkmoalbhaaGreatDoor
open Go.RowKit Fra

/-! ### Fractions compared with == -/
theorem frac_guard (op : BinOp) (x y : Operand) (a b c d : ByteArray) (W : World) : (eqGuard op 59 x y (.agg #[.string a, .string b]) (.agg #[.string c, .string d])).run Tryz.prog W = .ok () W :=
  run_eqGuard_agg W op _ x y _ _ (by kernel_rfl)
theorem frac_equal (a b c d : ByteArray) (W : World) : (Op.equalIn 10000 59 (.agg #[.string a, .string b]) (.agg #[.string c, .string d])).run Tryz.prog W = .ok (a.toList == c.toList && b.toList == d.toList) W := by
  rw [run_equalIn_agg W 9999 59 _ _ (by kernel_rfl) (by kernel_rfl)]
  have hf : (Tryz.prog.fieldsOf 59).toList = [⟨"Num", 33, 0, false, "", "", 0⟩, ⟨"Den", 33, 1, false, "", "", 16⟩] := by kernel_rfl
  rw [hf]
  simp [Op.eqFields, go_sem]
  by_cases h1 : a.toList = c.toList
  · by_cases h2 : b.toList = d.toList
    · simp [h1, h2]
    · rw [if_pos h1, if_neg h2]; simp [h2]
  · rw [if_neg h1]; simp [h1]
theorem frac_eql (a b c d : ByteArray) (W : World) : (binOp .eql 59 (.agg #[.string a, .string b]) (.agg #[.string c, .string d])).run Tryz.prog W = .ok (.bool (a.toList == c.toList && b.toList == d.toList)) W := by
  rw [run_eql_struct, frac_equal]; rfl
theorem frac_same (a b : ByteArray) (W : World) : (binOp .eql 59 (.agg #[.string a, .string b]) (.agg #[.string a, .string b])).run Tryz.prog W = .ok (.bool true) W := by
  rw [frac_eql]; simp
/-- a box behind some calls -/
structure StX (w W : World) (s : TypeId) (a b : ByteArray) : Prop where
  g : Ground W
  x : PairAt W w.heap.size s a b
  below : Below w.heap.size w W
theorem StX.next {w W W1 : World} {s : TypeId} {a b : ByteArray} (h : StX w W s a b) (hb : Below W.heap.size W W1) : StX w W1 s a b := ⟨h.g.below hb, h.x.below hb, h.below.trans (hb.mono h.below.size)⟩
theorem StX.drewN {w W : World} {s : TypeId} {a b : ByteArray} (h : StX w W s a b) (q : Nat) : StX w (W.drewN q) s a b := ⟨⟨h.g.tab, h.g.max⟩, h.x, below_drewN h.below q⟩
theorem StX.drew {w W : World} {s : TypeId} {a b : ByteArray} (h : StX w W s a b) : StX w W.drew s a b := h.drewN 1
theorem StX.next1 {w W W1 : World} {s : TypeId} {a b : ByteArray} (h : StX w W s a b) (hb : Below W.drew.heap.size W.drew W1) : StX w W1 s a b := h.drew.next hb
theorem StX.nextD {w W W1 : World} {q : Nat} {s : TypeId} {a b : ByteArray} (h : StX w W s a b) (hb : Below (W.drewN q).heap.size (W.drewN q) W1) : StX w W1 s a b := (h.drewN q).next hb
theorem StX.made {w : World} (hG : Ground w) (s : TypeId) (a b : ByteArray) : StX w (w.alloc (.cells #[.string a, .string b] s)) s a b :=
  have hB : Below w.heap.size w (w.alloc (.cells #[.string a, .string b] s)) := (Below.refl _ _).alloc (Nat.le_refl _) _
  ⟨hG.below hB, PairAt.made w s a b, hB⟩

end Go.Proofs.YtahnkmkmoalbhaaGreatDoor

/- The program's layer 2: text, Print, Power: the walks. -/
namespace Go.Proofs.YtahnkmkmoalbhaaGreatDoor
open Go.RowKit Fra

/-! ### Powers -/
theorem PairAt.set0 {W : World} {b : Nat} {t : TypeId} {x y : ByteArray} (h : PairAt W b t x y) (u : ByteArray) : PairAt (W.setCell ⟨b, 0, none⟩ (.string u)) b t u y := by
  have h1 := heap_setCell_same W b 0 _ _ (.string u) h
  unfold PairAt; rw [h1]; rfl
theorem PairAt.set1 {W : World} {b : Nat} {t : TypeId} {x y : ByteArray} (h : PairAt W b t x y) (u : ByteArray) : PairAt (W.setCell ⟨b, 1, none⟩ (.string u)) b t x u := by
  have h1 := heap_setCell_same W b 1 _ _ (.string u) h
  unfold PairAt; rw [h1]; rfl
theorem PairAt.setOther {W : World} {b : Nat} {t : TypeId} {x y : ByteArray} (h : PairAt W b t x y) {a : Addr} (hne : b ≠ a.block) (u : Value) : PairAt (W.setCell a u) b t x y := by
  unfold PairAt at *; rw [Below.heap_setCell W a u b hne]; exact h

end Go.Proofs.YtahnkmkmoalbhaaGreatDoor

/- The program's layer 2: Power with a negative exponent: the walk. -/
namespace Go.Proofs.YtahnkmkmoalbhaaGreatDoor
open Go.RowKit Fra

theorem St1.drewN {w W : World} {s t : TypeId} {a b : ByteArray} (h : St1 w W s t a b) (q : Nat) : St1 w (W.drewN q) s t a b := ⟨⟨h.g.tab, h.g.max⟩, h.x, h.r, below_drewN h.below q⟩
theorem St1.drew {w W : World} {s t : TypeId} {a b : ByteArray} (h : St1 w W s t a b) : St1 w W.drew s t a b := h.drewN 1
theorem St1.next1 {w W W1 : World} {s t : TypeId} {a b : ByteArray} (h : St1 w W s t a b) (hb : Below W.drew.heap.size W.drew W1) : St1 w W1 s t a b := h.drew.next hb
theorem St1.nextD {w W W1 : World} {q : Nat} {s t : TypeId} {a b : ByteArray} (h : St1 w W s t a b) (hb : Below (W.drewN q).heap.size (W.drewN q) W1) : St1 w W1 s t a b := (h.drewN q).next hb
theorem St1.alloc {w W : World} {s t : TypeId} {a b : ByteArray} (h : St1 w W s t a b) (o : Obj) : St1 w (W.alloc o) s t a b := h.next ((Below.refl _ _).alloc (Nat.le_refl _) _)
theorem St1.room {w W : World} {s t : TypeId} {a b : ByteArray} (h : St1 w W s t a b) : w.heap.size + 2 ≤ W.heap.size := by have := h.r.lt; omega
end Go.Proofs.YtahnkmkmoalbhaaGreatDoor

/- The program's layer 2: Parse: the walk, by the contract of strings.Cut. -/
namespace Go.Proofs.YtahnkmkmoalbhaaGreatDoor
open Go.RowKit Fra

/-! ### Where the first slash stands -/
def slash (l : List UInt8) : Nat := (l.takeWhile (· != 47)).length
end Go.Proofs.YtahnkmkmoalbhaaGreatDoor

/- The contracts of the program's functions of layer 2, by values; the laws' awake. -/
namespace Go.Proofs.YtahnkmkmoalbhaaGreatDoor
open Go.RowKit Fra

/-- two strings with a value, of a size that every function bears -/
def Val (n d : ByteArray) (x : Int × Int) : Prop := raw n d = x ∧ n.size ≤ 99998 ∧ d.size ≤ 99998
theorem Val.pos {n d : ByteArray} {x : Int × Int} (h : Val n d x) : 0 < x.2 := by rw [← h.1]; exact raw_pos _ _
theorem Val.of {k : Nat} {p : Int × Int} (h : CapP k p) (hp : 0 < p.2) (hk : k ≤ 99997) : Val (cS p.1) (cD p.2) p :=
  ⟨raw_can hp, by have := cS_size h.1; omega, by have := cD_size h.2; omega⟩
theorem Val.zero : Val ⟨#[]⟩ ⟨#[]⟩ (0, 1) := ⟨raw_nil, by decide, by decide⟩
theorem CapP.zero {k : Nat} (h : 1 ≤ k) : CapP k (0, 1) := ⟨by unfold Cap; have := Nat.pow_pos (n := k) (show 0 < 10 by decide); exact this, Cap.one h⟩
/-- a fraction that the law is given -/
structure Giv (k : Nat) (n d : ByteArray) (x : Int × Int) : Prop where
  eq : raw n d = x
  num : n.size ≤ k
  den : d.size ≤ k
theorem Giv.arg {k : Nat} {n d : ByteArray} {x : Int × Int} (h : Giv k n d x) (hk : k ≤ 99998) : Val n d x := ⟨h.eq, Nat.le_trans h.num hk, Nat.le_trans h.den hk⟩
theorem Giv.cap {k : Nat} {n d : ByteArray} {x : Int × Int} (h : Giv k n d x) (hk : 1 ≤ k) : CapP k x := by rw [← h.eq]; exact CapP.of_raw hk h.num h.den
theorem Giv.pos {k : Nat} {n d : ByteArray} {x : Int × Int} (h : Giv k n d x) : 0 < x.2 := by rw [← h.eq]; exact raw_pos _ _

section
variable {n d m e : ByteArray} {x y z : Int × Int} (w : World) (hG : Ground w)
include hG
theorem fNew_v {a b : ByteArray} {p q : Int} (ha : a.size ≤ 100000) (hb : b.size ≤ 100000) (h1 : vS a = p) (h2 : vS b = q) (h0 : q ≠ 0) (hz : redS p q = z) : Calls Tryz.prog 75 #[.string a, .string b] w fun e w' => e = .returned (.tuple #[.agg #[.string (cS z.1), .string (cD z.2)], .int .i64 0]) ∧ Below w.heap.size w w' := by
  rw [← hz, ← h1, ← h2]; exact fNew_any a b w hG ha hb (by rw [h2]; exact h0)
/-! ### The chapter's examples -/
end

end Go.Proofs.YtahnkmkmoalbhaaGreatDoor
