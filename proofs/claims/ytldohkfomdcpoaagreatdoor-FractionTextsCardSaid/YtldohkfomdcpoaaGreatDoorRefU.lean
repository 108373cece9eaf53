/- The reference implementation of layer 1: Gcd, Power: walks. -/
import Derived.Test.YtldohkfomdcpoaaGreatDoorRefR
import Derived.Test.YtldohkfomdcpoaaGreatDoorGcd
namespace Go.Proofs.YtldohkfomdcpoaaGreatDoor
open Go.RowKit

theorem dig_cS (s : ByteArray) : (ByteArray.mk (Num.sdig s.data.toList).toArray) = cS ((vS s).natAbs : Int) := by
  unfold cS Num.canon
  rw [if_neg (by omega), Num.sdig_val]
  simp [vS]
def absV : Value → Nat | .string s => (vS s).natAbs | _ => 0

set_option maxRecDepth 100000 in
set_option maxHeartbeats 2000000 in
theorem rGcd_any (a b : ByteArray) (w : World) (ha : a.size ≤ 900) (hb : b.size ≤ 900) :
    Calls Tryz.prog 70 #[.string a, .string b] w (StrPost w (Int.gcd (vS a) (vS b) : Int)) := by
  have hma := lim_max (show a.size ≤ 4294967296 by omega)
  have hmb := lim_max (show b.size ≤ 4294967296 by omega)
  have hA := vS_lt a
  have hB0 := vS_lt b
  have hA2 := Nat.pow_le_pow_right (show 1 ≤ 10 by decide) ha
  have hB2 := Nat.pow_le_pow_right (show 1 ≤ 10 by decide) hb
  have HA := Lib.hid (Nat.lt_of_lt_of_le hA hA2)
  have HB := Lib.hid (Nat.lt_of_lt_of_le hB0 hB2)
  clear hA hB0 hA2 hB2
  have hst : (Int.gcd ((vS a).natAbs : Int) ((vS b).natAbs : Int) : Int) = (Int.gcd (vS a) (vS b) : Int) := by simp [Int.gcd]
  have HST := Lib.hid hst
  clear hst
  go_enter Tryz.func70, Tryz.ntmps70
  go_wp2_with fail
  refine (digits_any a _ hma).mono ?_
  rintro e w' ⟨rfl, rfl⟩
  rw [dig_cS]
  go_wp2_with fail
  refine (digits_any b _ hmb).mono ?_
  rintro e w' ⟨rfl, rfl⟩
  rw [dig_cS]
  go_wp2_with fail
  go_loopw [9, 10] (fun xv yv wr => ∃ X Y : Int, 0 ≤ X ∧ 0 ≤ Y ∧ xv = .string (cS X) ∧ yv = .string (cS Y) ∧ (Int.gcd X Y : Int) = (Int.gcd (vS a) (vS b) : Int) ∧ X.natAbs < 10 ^ 900 ∧ Y.natAbs < 10 ^ 900 ∧ Below w.heap.size w wr) (fun _ yv _ => absV yv)
  case atStart => exact ⟨_, _, by omega, by omega, rfl, rfl, HST.out, by rw [Int.natAbs_natCast]; exact HA.out, by rw [Int.natAbs_natCast]; exact HB.out, Below.refl _ _⟩
  case round =>
    clear HST HA HB
    obtain ⟨X, Y, hX0, hY0, rfl, rfl, hg, hX, hY, hB⟩ := hrel
    have HG := Lib.hid hg
    have HX := Lib.hid hX
    have HY := Lib.hid hY
    have HB := Lib.hid hB
    clear hg hX hY hB
    by_cases hz : Y = 0
    · subst hz
      have H := Lib.hid (show X = (Int.gcd (vS a) (vS b) : Int) by rw [← HG.out, Int.gcd_zero_right]; omega)
      have hc0 : (cS 0) = ⟨#[]⟩ := by decide +kernel
      clear HG HX HY
      go_wp2_with fail
      go_ret
      exact ⟨by rw [H.out]; rfl, HB.out⟩
    · have hb := cS_empty Y
      rw [decide_eq_false hz] at hb
      have hsx : (cS X).size ≤ 1000 := Nat.le_trans (cS_size HX.out) (by decide)
      have hsy : (cS Y).size ≤ 1000 := Nat.le_trans (cS_size HY.out) (by decide)
      have hv0 : vS (cS Y) ≠ 0 := by rw [vS_cS]; exact hz
      have hdm := Int.fmod_add_mul_fdiv X Y
      have h1 : 0 ≤ Int.fmod X Y := Int.fmod_nonneg_of_pos _ (by omega)
      have h2 : Int.fmod X Y < Y := Int.fmod_lt_of_pos _ (by omega)
      have hgs := gcd_step (A := X) (D := Y) (Q := Int.fdiv X Y) (R := Int.fmod X Y) (by rw [Int.mul_comm (Int.fdiv X Y)]; omega)
      have HNG := Lib.hid (show (Int.gcd Y (Int.fmod X Y) : Int) = (Int.gcd (vS a) (vS b) : Int) by rw [hgs, HG.out])
      have HNR := Lib.hid (show (Int.fmod X Y).natAbs < 10 ^ 900 from Nat.lt_of_le_of_lt (by omega) HY.out)
      have HM := Lib.hid (And.intro h1 h2)
      have HV0 := Lib.hid hv0
      clear hdm h1 h2 hgs hv0 hz
      go_wp2_with fail
      refine (rDiv_any (cS X) (cS Y) wr hsx hsy HV0.out).mono ?_
      rintro e w3 ⟨rfl, hB3⟩
      rw [vS_cS, vS_cS]
      have HB3 := Lib.hid (HB.out.trans (hB3.mono HB.out.size))
      clear hB3
      go_wp2_with fail
      go_roundw
      case rel => exact ⟨Y, Int.fmod X Y, hY0, HM.out.1, rfl, rfl, HNG.out, HY.out, HNR.out, HB3.out⟩
      case measure => unfold absV; simp only [vS_cS]; have := HM.out; omega

end Go.Proofs.YtldohkfomdcpoaaGreatDoor
