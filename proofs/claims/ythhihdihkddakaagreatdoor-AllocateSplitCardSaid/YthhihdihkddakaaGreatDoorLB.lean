/- The laws' sum of layer 4: the walk. -/
import Derived.Test.YthhihdihkddakaaGreatDoorMParts
import Derived.Test.YthhihdihkddakaaGreatDoorAE
namespace Go.Proofs.YthhihdihkddakaaGreatDoor
open Go.RowKit

set_option maxRecDepth 100000 in
set_option maxHeartbeats 4000000 in
theorem rSum (xa : Option Addr) (N cap c : Nat) (s : Nat → ByteArray) (w : World) (hG : Ground w) (hr : Rs w xa N s) (hf : Fit N c s) :
    Calls Tryz.prog 32 #[.slice xa N cap] w (StrPost w (sumS s N)) := by
  have HO := Lib.hid (of_any 0 w hG (by decide) (by decide))
  rw [cS_zero] at HO
  have HG := Lib.hid hG
  have HR := Lib.hid hr
  have HF := Lib.hid hf
  have hlim := hf.few
  clear hG hr hf
  unfold StrPost
  go_enter Tryz.func32, Tryz.ntmps32
  go_wp2_with fail
  refine HO.out.mono ?_
  rintro _ w1 ⟨rfl, hB1⟩
  have HB := Lib.hid hB1
  clear hB1 HO
  go_wp2_with fail
  go_loopw [3, 9] (fun sv iv wr => ∃ k : Nat, k ≤ N ∧ iv = .int .i64 (k : Int) ∧ sv = .string (cS (sumS s k)) ∧ Hid (Below w.heap.size w wr)) (fun _ iv _ => N - (intOf iv).toNat)
  case atStart => exact ⟨0, Nat.zero_le _, rfl, by rw [sumS_zero, cS_zero], HB⟩
  case round =>
    clear HB
    obtain ⟨k, hk, rfl, rfl, HB⟩ := hrel
    by_cases hlt : k < N
    · obtain ⟨b, o, rfl, hb, hck⟩ := Rs.at (HR.out.belowAt HB.out (Nat.le_refl _)) hlt
      have hsz := HF.out.size k hlt
      have HA := Lib.hid (add_v (z := sumS s (k + 1)) wr (HG.out.below HB.out) (HF.out.sum (k := k) (by omega)) (show (s k).size ≤ 4294967295 by omega) (vS_cS _) rfl (sumS_succ s k).symm)
      unfold StrPost at HA
      obtain ⟨sk, hsk⟩ : ∃ sk, s k = sk := ⟨_, rfl⟩
      rw [hsk] at hck HA
      clear hsz hsk
      go_wp2_with fail
      refine HA.out.mono ?_
      rintro _ w2 ⟨rfl, hB2⟩
      have HB2 := Lib.hid (HB.out.trans (hB2.mono HB.out.size))
      clear hB2 HA HB
      go_wp2_with fail
      go_roundw
      case rel => exact ⟨k + 1, by omega, by simp, rfl, HB2⟩
      case measure => simp [intOf]; omega
    · obtain rfl : k = N := by omega
      go_wp2_with fail
      go_ret
      exact ⟨rfl, HB.out⟩

end Go.Proofs.YthhihdihkddakaaGreatDoor
