/- integer.Add, Sub, Mul: walks by contracts. -/
import Derived.Test.YtldohkfomdcpoaaGreatDoorWrite
import Derived.Test.YtldohkfomdcpoaaGreatDoorLong
namespace Go.Proofs.YtldohkfomdcpoaaGreatDoor
open Go.RowKit

theorem vS_sg (s : ByteArray) : vS s = sg (Num.sneg s.data.toList) (Num.gval (gS s)) := by
  rw [gS_val]
  cases h : Num.sneg s.data.toList
  · have := (vS_pos h).2; simp only [sg]; simp; omega
  · have := (vS_neg h).2; simp only [sg]; simp; omega

theorem gS_length (s : ByteArray) (hs : s.size ≤ 4294967296) : (gS s).length ≤ 500000000 := by
  unfold gS; rw [Num.grps_length]
  have := Num.sdig_length s.data.toList
  rw [size_toList] at this; omega

/-- what an operation with one string as its result leaves -/
def StrPost (w : World) (z : Int) (e : Ending) (w' : World) : Prop := e = .returned (.string (cS z)) ∧ Below w.heap.size w w'

/-- write at what combine leaves -/
theorem write_row (neg : Bool) (w0 w : World) (hG : Ground w) (hB : Below w0.heap.size w0 w) (b cap : Nat) (zs : List Int) (hx : Sl w b 0 cap zs) (cz : Num.Can zs) {z : Int} (hz : sg neg (Num.gval zs) = z) :
    Calls Tryz.prog 83 #[.bool neg, .slice (some ⟨b, 0, none⟩) zs.length cap] w (StrPost w0 z) := by
  refine (write_any neg w hG _ cap zs (fun _ => ⟨b, 0, rfl, hx⟩) cz (by have := hx.le; have := hx.max; omega)).mono ?_
  rintro e w' ⟨rfl, hb⟩
  exact ⟨by rw [hz], hB.trans (hb.mono hB.size)⟩

set_option maxRecDepth 100000 in
set_option maxHeartbeats 2000000 in
theorem add_any (a b : ByteArray) (w : World) (hG : Ground w) (ha : a.size ≤ 4294967296) (hb : b.size ≤ 4294967296) :
    Calls Tryz.prog 95 #[.string a, .string b] w (StrPost w (vS a + vS b)) := by
  have hva := vS_sg a
  have hvb := vS_sg b
  obtain ⟨na, hna⟩ : ∃ na, na = Num.sneg a.data.toList := ⟨_, rfl⟩
  obtain ⟨nb, hnb⟩ : ∃ nb, nb = Num.sneg b.data.toList := ⟨_, rfl⟩
  rw [← hna] at hva
  rw [← hnb] at hvb
  have HNA := Lib.hid hna
  have HNB := Lib.hid hnb
  have HVA := Lib.hid hva
  have HVB := Lib.hid hvb
  have hla := gS_length a ha
  have hlb := gS_length b hb
  have ga0 := Num.gval_nonneg (gS_can a).1
  have gb0 := Num.gval_nonneg (gS_can b).1
  clear hna hnb hva hvb
  go_enter Tryz.func95, Tryz.ntmps95
  go_wp2_with fail
  refine (read_any a w ha).mono ?_
  rintro e w1 ⟨bx, cx, rfl, hsx, hbx, hB1⟩
  rw [← HNA.out]
  go_wp2_with fail
  refine (read_any b w1 hb).mono ?_
  rintro e w2 ⟨bY, cy, rfl, hsy, hby, hB2⟩
  rw [← HNB.out]
  have hB : Below w.heap.size w w2 := hB1.trans (hB2.mono hB1.size)
  have hsx2 : Sl w2 bx 0 cx (gS a) := hsx.below hB2 hsx.lt
  have hG2 := hG.below hB
  have hbw : w.heap.size ≤ bY := by have := hB1.size; omega
  clear hB1 hB2 hsx
  by_cases hs : na = nb
  · subst hs
    obtain ⟨zs, hzs⟩ : ∃ zs, zs = Num.groups (Num.gval (gS a) + Num.gval (gS b)) := ⟨_, rfl⟩
    have hzc : Num.Can zs := by rw [hzs]; exact Num.Can.groups _
    have hzg : Num.gval zs = Num.gval (gS a) + 1 * Num.gval (gS b) := by rw [hzs, Num.gval_groups (by omega)]; omega
    have hv : sg na (Num.gval zs) = vS a + vS b := by rw [HVA.out, HVB.out, hzg]; cases na <;> simp [sg] <;> omega
    have HZG := Lib.hid hzg
    have HV := Lib.hid hv
    have hbb : (na == na) = true := by simp
    clear hzs hzg hv
    go_wp2_with fail
    refine (combine_any 1 w2 (some ⟨bx, 0, none⟩) cx bY 0 cy _ _ (gS a) (gS b) zs rfl rfl (fun _ => ⟨bx, 0, rfl, hsx2⟩) hsy (gS_can a).1 (gS_can b).1 (.inl rfl) (by omega) hzc HZG.out).mono ?_
    rintro e w3 ⟨b3, c3, rfl, hs3, hb3, hB3⟩
    go_wp2_with fail
    refine (write_row na w w3 (hG2.below hB3) (hB.trans (hB3.mono hB.size)) b3 c3 zs hs3 hzc HV.out).mono ?_
    rintro e w4 ⟨rfl, hB4⟩
    go_wp2_with fail
    go_ret
    exact ⟨rfl, hB4⟩
  · have hbb : (na == nb) = false := by simpa using hs
    by_cases hlt : Num.gval (gS a) < Num.gval (gS b)
    · have hcm : cmp3 (Num.gval (gS a)) (Num.gval (gS b)) < 0 := by rw [cmp3_lt hlt]; decide
      obtain ⟨zs, hzs⟩ : ∃ zs, zs = Num.groups (Num.gval (gS b) - Num.gval (gS a)) := ⟨_, rfl⟩
      have hzc : Num.Can zs := by rw [hzs]; exact Num.Can.groups _
      have hzg : Num.gval zs = Num.gval (gS b) + -1 * Num.gval (gS a) := by rw [hzs, Num.gval_groups (by omega)]; omega
      have hv : sg nb (Num.gval zs) = vS a + vS b := by rw [HVA.out, HVB.out, hzg]; cases na <;> cases nb <;> simp [sg] at hs ⊢ <;> omega
      have HZG := Lib.hid hzg
      have HV := Lib.hid hv
      have HCM := Lib.hid hcm
      clear hzs hzg hv hcm
      go_wp2_with fail
      refine (compareGroups_any w2 bx 0 cx bY 0 cy _ _ (gS a) (gS b) rfl rfl hsx2 hsy (gS_can a) (gS_can b)).mono ?_
      rintro e w3 ⟨rfl, k, rfl⟩
      obtain ⟨c, hc⟩ : ∃ c, c = cmp3 (Num.gval (gS a)) (Num.gval (gS b)) := ⟨_, rfl⟩
      rw [← hc]
      have hcb : c < 0 := by rw [hc]; exact HCM.out
      clear hc
      have hBk : Below w2.heap.size w2 (w2.drewN k) := below_drewN (Below.refl _ _) k
      go_wp2_with fail
      refine (combine_any (-1) (w2.drewN k) (some ⟨bY, 0, none⟩) cy bx 0 cx _ _ (gS b) (gS a) zs rfl rfl (fun _ => ⟨bY, 0, rfl, hsy.drewN k⟩) (hsx2.drewN k) (gS_can b).1 (gS_can a).1 (.inr rfl) (by omega) hzc HZG.out).mono ?_
      rintro e w3 ⟨b3, c3, rfl, hs3, hb3, hB3⟩
      have hB3' : Below w2.heap.size w2 w3 := hBk.trans (hB3.mono (Nat.le_refl _))
      go_wp2_with fail
      refine (write_row nb w w3 (hG2.below hB3') (hB.trans (hB3'.mono hB.size)) b3 c3 zs hs3 hzc HV.out).mono ?_
      rintro e w4 ⟨rfl, hB4⟩
      go_wp2_with fail
      go_ret
      exact ⟨rfl, hB4⟩
    · have hcm : ¬ cmp3 (Num.gval (gS a)) (Num.gval (gS b)) < 0 := by unfold cmp3; rw [if_neg hlt]; split <;> omega
      obtain ⟨zs, hzs⟩ : ∃ zs, zs = Num.groups (Num.gval (gS a) - Num.gval (gS b)) := ⟨_, rfl⟩
      have hzc : Num.Can zs := by rw [hzs]; exact Num.Can.groups _
      have hzg : Num.gval zs = Num.gval (gS a) + -1 * Num.gval (gS b) := by rw [hzs, Num.gval_groups (by omega)]; omega
      have hv : sg na (Num.gval zs) = vS a + vS b := by rw [HVA.out, HVB.out, hzg]; cases na <;> cases nb <;> simp [sg] at hs ⊢ <;> omega
      have HZG := Lib.hid hzg
      have HV := Lib.hid hv
      have HCM := Lib.hid hcm
      clear hzs hzg hv hcm
      go_wp2_with fail
      refine (compareGroups_any w2 bx 0 cx bY 0 cy _ _ (gS a) (gS b) rfl rfl hsx2 hsy (gS_can a) (gS_can b)).mono ?_
      rintro e w3 ⟨rfl, k, rfl⟩
      obtain ⟨c, hc⟩ : ∃ c, c = cmp3 (Num.gval (gS a)) (Num.gval (gS b)) := ⟨_, rfl⟩
      rw [← hc]
      have hcb : ¬ c < 0 := by rw [hc]; have := HCM.out; omega
      clear hc
      have hBk : Below w2.heap.size w2 (w2.drewN k) := below_drewN (Below.refl _ _) k
      go_wp2_with fail
      refine (combine_any (-1) (w2.drewN k) (some ⟨bx, 0, none⟩) cx bY 0 cy _ _ (gS a) (gS b) zs rfl rfl (fun _ => ⟨bx, 0, rfl, hsx2.drewN k⟩) (hsy.drewN k) (gS_can a).1 (gS_can b).1 (.inr rfl) (by omega) hzc HZG.out).mono ?_
      rintro e w3 ⟨b3, c3, rfl, hs3, hb3, hB3⟩
      have hB3' : Below w2.heap.size w2 w3 := hBk.trans (hB3.mono (Nat.le_refl _))
      go_wp2_with fail
      refine (write_row na w w3 (hG2.below hB3') (hB.trans (hB3'.mono hB.size)) b3 c3 zs hs3 hzc HV.out).mono ?_
      rintro e w4 ⟨rfl, hB4⟩
      go_wp2_with fail
      go_ret
      exact ⟨rfl, hB4⟩

theorem canon_length_le {z : Int} {k : Nat} (h : z.natAbs < 10 ^ k) : (Num.canon z).length ≤ k + 1 := by
  have : (Num.digs z.natAbs).length ≤ k := by
    by_cases h0 : z.natAbs = 0
    · rw [h0]; exact Nat.zero_le _
    · unfold Num.digs; rw [if_neg h0, Lib.decDigits_length]
      by_cases hk : Lib.nDigits z.natAbs ≤ k
      · exact hk
      · exfalso
        have hp := Num.Plain.digs z.natAbs
        have h1 : Num.digs z.natAbs = Lib.decDigits z.natAbs := by unfold Num.digs; rw [if_neg h0]
        have h2 := Num.num_digs z.natAbs
        rw [h1] at hp h2
        cases hd : Lib.decDigits z.natAbs with
        | nil => exact Num.decDigits_ne _ hd
        | cons c r =>
          rw [hd] at hp h2
          have hc := hp.1
          simp only [List.all_cons, Bool.and_eq_true] at hc
          have h3 := Num.num_ge c r hc.1 (by have := hp.2; simpa using this)
          have h4 : r.length + 1 = Lib.nDigits z.natAbs := by rw [← Lib.decDigits_length, hd]; rfl
          have h5 := Nat.pow_le_pow_right (show 1 ≤ 10 by decide) (show k ≤ r.length by omega)
          omega
  unfold Num.canon; split <;> simp <;> omega
theorem cS_size {z : Int} {k : Nat} (h : z.natAbs < 10 ^ k) : (cS z).size ≤ k + 1 := by
  have := canon_length_le h
  rw [← size_toList]; exact this
theorem vS_lt (s : ByteArray) : (vS s).natAbs < 10 ^ s.size := by
  unfold vS
  rw [Num.natAbs_val]
  have h1 := Num.num_lt _ (Num.Plain.sdig s.data.toList).1
  have h2 := Num.sdig_length s.data.toList
  rw [size_toList] at h2
  have := Nat.pow_le_pow_right (show 1 ≤ 10 by decide) h2
  unfold Num.mag; omega

/-- the size of a sum -/
theorem cS_neg_size (s : ByteArray) : (cS (-(vS s))).size ≤ s.size + 1 := cS_size (by have := vS_lt s; omega)

set_option maxRecDepth 100000 in
set_option maxHeartbeats 2000000 in
theorem mul_any (a b : ByteArray) (w : World) (hG : Ground w) (ha : a.size ≤ 4294967296) (hb : b.size ≤ 4294967296) :
    Calls Tryz.prog 88 #[.string a, .string b] w (StrPost w (vS a * vS b)) := by
  have hva := vS_sg a
  have hvb := vS_sg b
  obtain ⟨na, hna⟩ : ∃ na, na = Num.sneg a.data.toList := ⟨_, rfl⟩
  obtain ⟨nb, hnb⟩ : ∃ nb, nb = Num.sneg b.data.toList := ⟨_, rfl⟩
  rw [← hna] at hva
  rw [← hnb] at hvb
  have HNA := Lib.hid hna
  have HNB := Lib.hid hnb
  have HVA := Lib.hid hva
  have HVB := Lib.hid hvb
  have hla := gS_length a ha
  have hlb := gS_length b hb
  clear hna hnb hva hvb
  go_enter Tryz.func88, Tryz.ntmps88
  go_wp2_with fail
  refine (read_any a w ha).mono ?_
  rintro e w1 ⟨bx, cx, rfl, hsx, hbx, hB1⟩
  rw [← HNA.out]
  go_wp2_with fail
  refine (read_any b w1 hb).mono ?_
  rintro e w2 ⟨bY, cy, rfl, hsy, hby, hB2⟩
  rw [← HNB.out]
  have hB : Below w.heap.size w w2 := hB1.trans (hB2.mono hB1.size)
  have hsx2 : Sl w2 bx 0 cx (gS a) := hsx.below hB2 hsx.lt
  have hG2 := hG.below hB
  clear hB1 hB2 hsx
  go_wp2_with fail
  refine (multiply_any w2 bx 0 cx bY 0 cy _ _ (gS a) (gS b) rfl rfl hsx2 hsy (gS_can a).1 (gS_can b).1 (by omega)).mono ?_
  rintro e w3 ⟨Z, rfl, hrow, hzl, hzn, hzg, hB3⟩
  have hBB : Below w.heap.size w w3 := hB.trans (hB3.mono hB.size)
  have hpre := hrow.prefix (Num.trimmed_prefix Z) (cap := (gS a).length + (gS b).length) (by have := (Num.trimmed_prefix Z).length_le; omega) (by omega)
  have hsl := hrow.sl (cap := (gS a).length + (gS b).length) (by omega) (by omega)
  have hv : sg (!(na == nb)) (Num.gval (Num.trimmed Z)) = vS a * vS b := by
    rw [Num.gval_trimmed, hzg, HVA.out, HVB.out]; cases na <;> cases nb <;> simp [sg, Int.neg_mul, Int.mul_neg]
  have HV := Lib.hid hv
  have HZL := Lib.hid hzl
  clear hv hzl hzg hrow
  go_wp2_with fail
  refine (trim_any w3 _ 0 _ _ Z HZL.out hsl).mono ?_
  rintro e w4 ⟨rfl, rfl⟩
  go_wp2_with fail
  refine (write_row (!(na == nb)) w w3 (hG.below hBB) hBB _ _ _ hpre (Num.Can.trimmed hzn) HV.out).mono ?_
  rintro e w4 ⟨rfl, hB4⟩
  go_wp2_with fail
  go_ret
  exact ⟨rfl, hB4⟩

end Go.Proofs.YtldohkfomdcpoaaGreatDoor
