/- The reference of layer 3: Finite. -/
import Derived.Test.YtlonbfddhfacmaaGreatDoorKA
namespace Go.Proofs.YtlonbfddhfacmaaGreatDoor
open Go.RowKit Fra

set_option maxRecDepth 100000 in
set_option maxHeartbeats 2000000 in
theorem kFinite_any {n d : ByteArray} {x : Int × Int} (h : raw n d = x) (hns : n.size ≤ 400) (hds : d.size ≤ 400) : Ret 28 #[.agg #[.string n, .string d]] (finV x) := by
  intro w hG
  have hx : 0 < x.2 := by rw [← h]; exact raw_pos _ _
  obtain ⟨k, hk⟩ : ∃ k, k = 400 := ⟨_, rfl⟩
  have hc : CapP k x := by rw [← h]; exact CapP.of_raw (by omega) (by omega) (by omega)
  have hl := (CapP.low hc hx).2
  have hp := low_pos hx
  obtain ⟨D, hD⟩ : ∃ D, D = (low x).2.toNat := ⟨_, rfl⟩
  have hDi : (low x).2 = (D : Int) := by omega
  have hDc : D < 10 ^ k := by have := hl; unfold Cap at this; omega
  have r2 : RemAt k 2 D := RemAt.of (by rw [← hDi]; exact hl) (by omega) (by decide) (by decide) (by omega) (by omega)
  obtain ⟨a, ha⟩ : ∃ a, (Num.tm 2 D).1 = a := ⟨_, rfl⟩
  obtain ⟨E, hE⟩ : ∃ E, (Num.tm 2 D).2 = E := ⟨_, rfl⟩
  have hE1 : E ≤ D := by rw [← hE]; exact Num.tm_le (by decide)
  have hE0 : 0 < E := by rw [← hE]; exact Num.tm_pos r2.d0
  have r5 : RemAt k 5 E := RemAt.of (by have := r2.cd; unfold Cap; omega) hE0 (by decide) (by decide) (by omega) (by omega)
  have f2 := r2.few
  have f5 := r5.few
  obtain ⟨b, hb⟩ : ∃ b, (Num.tm 5 E).1 = b := ⟨_, rfl⟩
  obtain ⟨R, hR⟩ : ∃ R, (Num.tm 5 E).2 = R := ⟨_, rfl⟩
  rw [ha] at f2
  rw [hb] at f5
  have HP := Lib.hid (show ∀ W, Ground W → Calls Tryz.prog 62 #[.agg #[.string n, .string d]] W fun r w' => r = .returned (.tuple #[.string (cS (low x).1), .string (cS (D : Int))]) ∧ Below W.heap.size W w' from fun W hW => by
    have := qParts_any n d W hW (by omega) (by omega)
    rwa [h, hDi] at this)
  have HRS := Lib.hid (show (cS (R : Int)).size ≤ 1000 by
    have h1 : R ≤ E := by rw [← hR]; exact Num.tm_le (by decide)
    have := cS_size (z := (R : Int)) (k := k) (by omega)
    omega)
  have H2 := Lib.hid (show ∀ W, Ground W → Calls Tryz.prog 69 #[.string (cS (D : Int)), .string ⟨#[50]⟩] W fun e w' => e = .returned (.tuple #[.int .i64 (a : Int), .string (cS (E : Int))]) ∧ Below W.heap.size W w' from fun W hW => by
    have := kDivided D 2 W (by decide) (by decide) r2.d0 k (by omega) hDc
    unfold RemPost at this
    rwa [ha, hE, show cS ((2 : Nat) : Int) = ⟨#[50]⟩ by decide +kernel] at this)
  have H5 := Lib.hid (show ∀ W, Ground W → Calls Tryz.prog 69 #[.string (cS (E : Int)), .string ⟨#[53]⟩] W fun e w' => e = .returned (.tuple #[.int .i64 (b : Int), .string (cS (R : Int))]) ∧ Below W.heap.size W w' from fun W hW => by
    have := kDivided E 5 W (by decide) (by decide) hE0 k (by omega) (by omega)
    unfold RemPost at this
    rwa [hb, hR, show cS ((5 : Nat) : Int) = ⟨#[53]⟩ by decide +kernel] at this)
  have hfin : Num.fin D = if R = 1 then some (max a b) else none := by rw [Num.fin_tm, hE, ha, hb, hR]
  have hfv : finV x = if R = 1 then .tuple #[.int .i64 ((max a b : Nat) : Int), .bool true] else .tuple #[.int .i64 0, .bool false] := by
    unfold finV
    rw [← hD, hfin]
    by_cases h1 : R = 1
    · rw [if_pos h1, if_pos h1]
    · rw [if_neg h1, if_neg h1]
  obtain ⟨W0, hW0⟩ : ∃ W0, W0 = w.alloc (.cells #[.string n, .string d] 24) := ⟨_, rfl⟩
  have hB0 : Below w.heap.size w W0 := by rw [hW0]; exact (Below.refl _ _).alloc (Nat.le_refl _) _
  have hmx : max (a : Int) (b : Int) = ((max a b : Nat) : Int) := by omega
  have HMX := Lib.hid hmx
  clear hx hc hl hp hD hDi hDc hk hns hds r2 r5 ha hE hb hR hE1 hE0 hfin h hmx
  by_cases h1 : R = 1
  · rw [if_pos h1] at hfv
    have HF := Lib.hid hfv
    have HR := Lib.hid (show cS (R : Int) = ⟨#[49]⟩ by rw [h1]; exact cS_one)
    clear hfv h1
    go_enter Tryz.func28, Tryz.ntmps28
    go_wp2_with fail
    rw [← hW0]
    clear hW0
    refine (HP.out W0 (hG.below hB0)).mono ?_
    rintro _ w1 ⟨rfl, hB⟩
    replace hB := hB0.trans (hB.mono hB0.size)
    clear hB0
    go_wp2_with fail
    refine (H2.out w1 (hG.below hB)).mono ?_
    rintro _ w2 ⟨rfl, hB1⟩
    replace hB := hB.trans (hB1.mono hB.size)
    clear hB1
    go_wp2_with fail
    refine (H5.out w2 (hG.below hB)).mono ?_
    rintro _ w3 ⟨rfl, hB1⟩
    replace hB := hB.trans (hB1.mono hB.size)
    clear hB1
    rw [HR.out]
    go_wp2_with fail
    refine (qCmp (x := 1) (y := 1) (z := 0) w3 (by decide) (by decide) vS_one vS_one rfl).mono ?_
    rintro _ _ ⟨rfl, rfl⟩
    go_wp2_with fail
    go_ret2
    exact ⟨by rw [HF.out, ← HMX.out]; rfl, hB⟩
  · rw [if_neg h1] at hfv
    have HF := Lib.hid hfv
    obtain ⟨c, hc⟩ : ∃ c, cmp3 (R : Int) 1 = c := ⟨_, rfl⟩
    have hne : c ≠ 0 := by rw [← hc]; intro e; have := (cmp3_zero _ _).1 e; omega
    have HC := Lib.hid hc
    have HVR := Lib.hid (vS_cS (R : Int))
    obtain ⟨sr, hsr⟩ : ∃ sr, sr = cS (R : Int) := ⟨_, rfl⟩
    have HSR := Lib.hid hsr
    rw [← hsr] at HRS HVR
    clear hfv h1 hsr hc
    go_enter Tryz.func28, Tryz.ntmps28
    go_wp2_with fail
    rw [← hW0]
    clear hW0
    refine (HP.out W0 (hG.below hB0)).mono ?_
    rintro _ w1 ⟨rfl, hB⟩
    replace hB := hB0.trans (hB.mono hB0.size)
    clear hB0
    go_wp2_with fail
    refine (H2.out w1 (hG.below hB)).mono ?_
    rintro _ w2 ⟨rfl, hB1⟩
    replace hB := hB.trans (hB1.mono hB.size)
    clear hB1
    go_wp2_with fail
    refine (H5.out w2 (hG.below hB)).mono ?_
    rintro _ w3 ⟨rfl, hB1⟩
    replace hB := hB.trans (hB1.mono hB.size)
    clear hB1
    rw [← HSR.out]
    go_wp2_with fail
    refine (qCmp w3 (Nat.le_trans HRS.out (by decide)) (by decide) HVR.out vS_one HC.out).mono ?_
    rintro _ _ ⟨rfl, rfl⟩
    go_wp2_with fail
    go_ret2
    exact ⟨by rw [HF.out]; rfl, hB⟩

end Go.Proofs.YtlonbfddhfacmaaGreatDoor
