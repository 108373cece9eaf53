/- The reference of layer 4: Check; the law AllocateChecks: the walks. -/
import Derived.Test.YthhihdihkddakaaGreatDoorRA
import Derived.Test.YthhihdihkddakaaGreatDoorAE
import Derived.Test.YthhihdihkddakaaGreatDoorAG
namespace Go.Proofs.YthhihdihkddakaaGreatDoor
open Go.RowKit Fra

theorem red_neg_iff {z W : Int} (h0 : 0 < W) : (red z W).1 < 0 ↔ z < 0 := by
  have h1 := red_cross (n := z) (d := W)
  have h2 := red_pos (n := z) (d := W) h0
  constructor
  · intro h
    rcases Int.lt_or_le z 0 with e | e
    · exact e
    · have h3 := Int.mul_neg_of_neg_of_pos h h0
      have h4 := Int.mul_nonneg e (Int.le_of_lt h2)
      omega
  · intro h
    rcases Int.lt_or_le (red z W).1 0 with e | e
    · exact e
    · have h3 := Int.mul_neg_of_neg_of_pos h h2
      have h4 := Int.mul_nonneg e (Int.le_of_lt h0)
      omega
theorem absP_red {z W : Int} (h0 : 0 < W) : absP (red z W) = red (z.natAbs : Int) W := by
  unfold absP
  by_cases h : z < 0
  · rw [if_pos ((red_neg_iff h0).2 h), negP_congr (z := (z, W)) (red_pos h0) h0 (same_red _ _), show ((z.natAbs : Nat) : Int) = -z by omega]
    rfl
  · rw [if_neg (fun q => h ((red_neg_iff h0).1 q)), show ((z.natAbs : Nat) : Int) = z by omega]
/-- the ideal part less x -/
def lessP (T : Int) (W m : Nat) (x : Int) : Int × Int := addP (red (T * (m : Nat)) (W : Nat)) (negP (x, 1))
theorem lessP_eq {T x : Int} {W m : Nat} (h0 : 0 < W) : lessP T W m x = red (T * (m : Nat) - x * (W : Nat)) (W : Nat) := by
  have hW : (0 : Int) < (W : Nat) := by omega
  unfold lessP
  rw [addP_congr (z := (T * (m : Nat), (W : Nat))) (w := (-x, 1)) (red_pos hW) (negP_pos (x := (x, 1)) Int.one_pos) hW Int.one_pos (same_red _ _) (same_red _ _)]
  unfold addP
  simp only [Int.mul_one]
  rw [Int.neg_mul, Int.sub_eq_add_neg]
theorem near_cmp {T x : Int} {W m : Nat} (h0 : 0 < W) : cmpP (absP (lessP T W m x)) (1, 1) < 0 ↔ nearP T W x m = true := by
  have hW : (0 : Int) < (W : Nat) := by omega
  rw [lessP_eq h0, absP_red hW, cmpP_congr (y := (1, 1)) (z := (((T * (m : Nat) - x * (W : Nat)).natAbs : Nat), (W : Nat))) (w := (1, 1)) (red_pos hW) Int.one_pos hW Int.one_pos (same_red _ _) rfl]
  unfold nearP cmpP cmp3
  simp only [Int.mul_one, Int.one_mul, decide_eq_true_iff]
  constructor
  · intro h
    by_cases e : (((T * (m : Nat) - x * (W : Nat)).natAbs : Nat) : Int) < (W : Nat)
    · omega
    · rw [if_neg e] at h
      split at h <;> omega
  · intro h
    rw [if_pos (by omega)]
    omega

theorem cmpP_rng (x y : Int × Int) : cmpP x y = -1 ∨ cmpP x y = 0 ∨ cmpP x y = 1 := by
  unfold cmpP cmp3
  split
  · exact Or.inl rfl
  · split
    · exact Or.inr (Or.inr rfl)
    · exact Or.inr (Or.inl rfl)

set_option maxRecDepth 100000 in
set_option maxHeartbeats 16000000 in
theorem rChk_w (w : World) (t : ByteArray) (xa ya : Option Addr) (n m cap cap2 : Nat) (s : Nat → ByteArray) (hr : Rs w xa n s) (hf : FitQ n t s) (h : weighE t n s ≠ 0) :
    Calls Tryz.prog 31 #[.string t, .slice xa n cap, .slice ya m cap2] w fun e w' => e = .returned (.int .i64 (weighE t n s)) ∧ Below w.heap.size w w' := by
  have HW := Lib.hid (rIdeal_bad w t xa n cap s hr hf h)
  obtain ⟨c, hc⟩ : ∃ c, weighE t n s = c := ⟨_, rfl⟩
  rw [hc] at HW ⊢
  have hb : (c != 0) = true := by rw [bne_iff_ne, ← hc]; exact h
  unfold nilE at HW
  clear hc h hr hf
  go_enter Tryz.func31, Tryz.ntmps31
  go_wp2_with fail
  refine HW.out.mono ?_
  rintro _ w1 ⟨rfl, hB⟩
  go_wp2_with fail
  go_ret
  exact ⟨rfl, hB⟩

set_option maxRecDepth 100000 in
set_option maxHeartbeats 16000000 in
theorem rChk_n (w : World) (hG : Ground w) (t : ByteArray) (xa ya : Option Addr) (n m cap cap2 : Nat) (s : Nat → ByteArray) (hr : Rs w xa n s) (hf : FitQ n t s) (h : weighE t n s = 0) (hnm : n ≠ m) :
    Calls Tryz.prog 31 #[.string t, .slice xa n cap, .slice ya m cap2] w fun e w' => e = .returned (.int .i64 9) ∧ Below w.heap.size w w' := by
  have HW := Lib.hid (rIdeal_ok w hG t xa n cap s hr hf h)
  have hb : ((m : Int) != (n : Int)) = true := by rw [bne_iff_ne]; omega
  have hb2 : ((m : Int) == (n : Int)) = false := by rw [beq_eq_false_iff_ne]; omega
  clear h hr hf hG hnm
  go_enter Tryz.func31, Tryz.ntmps31
  go_wp2_with fail
  refine HW.out.mono ?_
  rintro _ w1 ⟨za, cz, _, rfl, hz, hB⟩
  clear hz
  go_wp2_with fail
  go_ret
  exact ⟨rfl, hB⟩

set_option maxRecDepth 100000 in
set_option maxHeartbeats 16000000 in
theorem rChk_l (w : World) (hG : Ground w) (t : ByteArray) (xa ya : Option Addr) (n cap cap2 : Nat) (s p : Nat → ByteArray) (hr : Rs w xa n s) (hf : FitQ n t s) (hp : Rs w ya n p) (hps : ∀ i, i < n → (p i).size ≤ 100) (ht30 : t.size ≤ 30) (hs30 : ∀ i, i < n → (s i).size ≤ 30) (h : weighE t n s = 0) (r : Int) (r1 : ∀ k, k < n → isCan (p k) = false → r = 1) (r2 : (∀ k, k < n → isCan (p k) = true) → sumS p n ≠ vS t → r = 14) (r3 : (∀ k, k < n → isCan (p k) = true) → sumS p n = vS t → ∀ k, k < n → nearP (vS t) (Num.sumN (wtN s) n) (vS (p k)) (wtN s k) = false → r = 2) (r4 : (∀ k, k < n → isCan (p k) = true) → sumS p n = vS t → (∀ k, k < n → nearP (vS t) (Num.sumN (wtN s) n) (vS (p k)) (wtN s k) = true) → r = 0) :
    Calls Tryz.prog 31 #[.string t, .slice xa n cap, .slice ya n cap2] w fun e w' => e = .returned (.int .i64 r) ∧ Below w.heap.size w w' := by
  have hgd := weighE_zero h
  have hd := hgd.data hf.fitW
  obtain ⟨c, hc1, hdiv⟩ := hd.divc
  have hn := hdiv.few
  have hw0 := hdiv.w0
  have HW := Lib.hid (rIdeal_ok w hG t xa n cap s hr hf h)
  have HSM := Lib.hid (fun W hr => rSumR ya n cap2 p W hr ⟨by omega, fun i hi => by have := hps i hi; omega⟩)
  unfold StrPost at HSM
  have HTT := Lib.hid hd.total
  have HP := Lib.hid hp
  have HPS := Lib.hid hps
  have HG := Lib.hid hG
  have hWs : Cap 60 (Num.sumN (wtN s) n : Nat) := by
    have h1 := sumS_cap (s := s) (c := 30) (by decide) (k := n) (fun i hi => Cap.of (hs30 i hi) rfl)
    rw [hd.sum] at h1
    exact h1.mono (by omega)
  have hred : ∀ i, i < n → CapP 60 (idl (vS t) (Num.sumN (wtN s) n) (wtN s) i) := fun i hi => CapP.of_red (by omega) (Cap.mul (k := 30) (l := 30) (Cap.of ht30 rfl) (Cap.of (hs30 i hi) (by rw [hd.each i hi, vS_cS]))) hWs
  have HRD := Lib.hid hred
  have R1 := Lib.hid r1
  have R2 := Lib.hid r2
  have R3 := Lib.hid r3
  have R4 := Lib.hid r4
  clear h hr hf hG hp hps hgd hd hdiv hc1 hWs hred ht30 hs30 r1 r2 r3 r4
  obtain ⟨T, hT⟩ : ∃ T, vS t = T := ⟨_, rfl⟩
  obtain ⟨W, hW⟩ : ∃ W, Num.sumN (wtN s) n = W := ⟨_, rfl⟩
  obtain ⟨wt, hwt⟩ : ∃ wt, wtN s = wt := ⟨_, rfl⟩
  rw [hT, hW, hwt] at HW HRD R3 R4
  rw [hT] at R2 HTT
  rw [hW] at hw0
  have HT := Lib.hid hT
  clear hT hW hwt
  go_enter Tryz.func31, Tryz.ntmps31
  go_wp2_with fail
  refine HW.out.mono ?_
  rintro _ w1 ⟨za, cz, _, rfl, hz, hB⟩
  have HZ := Lib.hid hz
  have HB0 := Lib.hid hB
  have HP1 := Lib.hid (HP.out.belowAt hB (Nat.le_refl _))
  have HG1 := Lib.hid (HG.out.below hB)
  clear hz hB
  go_wp2_with fail
  go_loopw [9] (fun iv wr => ∃ k : Nat, k ≤ n ∧ iv = .int .i64 (k : Int) ∧ Hid (∀ i, i < k → isCan (p i) = true) ∧ wr = w1) (fun iv _ => n - (intOf iv).toNat)
  case atStart => exact ⟨0, Nat.zero_le _, rfl, Lib.hid (fun i hi => absurd hi (by omega)), rfl⟩
  case round =>
    obtain ⟨k, hk, rfl, HA, hwr⟩ := hrel
    have hwr2 : w1 = wr := hwr.symm
    clear hwr
    subst hwr2
    by_cases hlt : k < n
    · obtain ⟨b, o, rfl, hb, hck⟩ := Rs.at HP1.out hlt
      have hsz := HPS.out k hlt
      have hw1 : IntKind.i64.wrap ((k : Int) + 1) = (k : Int) + 1 := IntWalk.i64_in _ (by omega)
      have HCK := Lib.hid (rCheck_any (p k) w1 (by omega))
      by_cases hcan : isCan (p k) = true
      · rw [show chk (p k) = 0 by unfold chk; rw [hcan]; rfl] at HCK
        have HA2 := Lib.hid (show ∀ i, i < k + 1 → isCan (p i) = true from fun i hi => by
          by_cases e : i = k
          · subst e; exact hcan
          · exact HA.out i (by omega))
        obtain ⟨pk, hpk⟩ : ∃ x, p k = x := ⟨_, rfl⟩
        rw [hpk] at hck HCK
        clear hsz hpk hcan
        go_wp2_with fail
        refine HCK.out.mono ?_
        rintro _ _ ⟨rfl, rfl⟩
        go_wp2_with fail
        go_roundw
        case rel => exact ⟨k + 1, by omega, by simp, HA2, trivial⟩
        case measure => simp [intOf]; omega
      · have hcan2 : isCan (p k) = false := by cases h : isCan (p k) <;> simp_all
        rw [show chk (p k) = 1 by unfold chk; rw [hcan2]; rfl] at HCK
        have HE := Lib.hid (R1.out k hlt hcan2)
        obtain ⟨pk, hpk⟩ : ∃ x, p k = x := ⟨_, rfl⟩
        rw [hpk] at hck HCK
        clear hsz hpk hcan hcan2
        go_wp2_with fail
        refine HCK.out.mono ?_
        rintro _ _ ⟨rfl, rfl⟩
        go_wp2_with fail
        go_ret
        exact ⟨by rw [HE.out]; rfl, HB0.out⟩
    · obtain rfl : k = n := by omega
      by_cases hs : sumS p k = T
      · have HS2 := Lib.hid hs
        rw [hs, ← HTT.out] at HSM
        clear hs
        go_wp2_with fail
        refine (HSM.out _ HP1.out).mono ?_
        rintro _ w2 ⟨rfl, hB2⟩
        have HBW := Lib.hid (hB2.mono (Nat.le_refl _))
        clear hB2
        go_wp2_with fail
        go_loopw [10] (fun iv wx => ∃ i : Nat, i ≤ k ∧ iv = .int .i64 (i : Int) ∧ Hid (∀ j, j < i → nearP T W (vS (p j)) (wt j) = true) ∧ Hid (Below w1.heap.size w1 wx)) (fun iv _ => k - (intOf iv).toNat)
        case atStart => exact ⟨0, Nat.zero_le _, rfl, Lib.hid (fun i hi => absurd hi (by omega)), HBW⟩
        case round =>
          clear HBW
          obtain ⟨i, hi, rfl, HN, HB⟩ := hrel
          by_cases hlt2 : i < k
          · obtain ⟨pb, po, rfl, hpb, hA1⟩ := Rs.at HP1.out hlt2
            obtain ⟨zb, zo, rfl, hzb, hA2, hA3⟩ := Rf.at HZ.out hlt2
            have A1 := Lib.hid hA1
            have A2 := Lib.hid hA2
            have A3 := Lib.hid hA3
            have m1 := (HB.out.cell (p := ⟨pb, po + i, none⟩) hpb).trans hA1
            have m2 := (HB.out.cell (p := ⟨zb, zo + i * 2, none⟩) hzb).trans hA2
            have m3 := (HB.out.cell (p := ⟨zb, zo + i * 2 + 1, none⟩) hzb).trans hA3
            have hsz := HPS.out i hlt2
            have hpc := can_eq (HA.out i hlt2)
            have hxc : Cap 100 (vS (p i)) := Cap.of hsz rfl
            have hrd := HRD.out i hlt2
            have s1 := cS_size hrd.1
            have s2 := cD_size hrd.2
            have hW : (0 : Int) < (W : Nat) := by omega
            have hip : 0 < (idl T W wt i).2 := red_pos hW
            have hnp : 0 < (negP (vS (p i), 1)).2 := negP_pos (x := (vS (p i), 1)) Int.one_pos
            have hcd : CapP 161 (lessP T W (wt i) (vS (p i))) := CapP.add (k := 60) (l := 100) hrd (CapP.neg (x := (vS (p i), 1)) ⟨hxc, Cap.one (by decide)⟩ Int.one_pos) hip hnp
            have hdp : 0 < (lessP T W (wt i) (vS (p i))).2 := addP_pos hip hnp
            have hraw : raw (p i) ⟨#[]⟩ = (vS (p i), 1) := by
              have := raw_can (p := (vS (p i), 1)) Int.one_pos
              rw [show cD (vS (p i), (1 : Int)).2 = ⟨#[]⟩ from cD_one] at this
              dsimp only at this
              rwa [← hpc] at this
            have hraw1 : raw ⟨#[49]⟩ ⟨#[]⟩ = (1, 1) := by
              have := raw_can (p := (1, 1)) Int.one_pos
              rwa [show cD ((1 : Int), (1 : Int)).2 = ⟨#[]⟩ from cD_one, show cS ((1 : Int), (1 : Int)).1 = ⟨#[49]⟩ from cS_one] at this
            have HOF := Lib.hid (show Ret 54 #[.string (p i)] (.agg #[.string (p i), .string ⟨#[]⟩]) from fun W' _ => by
              have := qOf_any (a := p i) (x := vS (p i)) W' (by omega) rfl
              rwa [← hpc] at this)
            have HO1 := Lib.hid (show Ret 54 #[.string ⟨#[49]⟩] (.agg #[.string ⟨#[49]⟩, .string ⟨#[]⟩]) from fun W' _ => by
              have := qOf_any (a := ⟨#[49]⟩) (x := 1) W' (by decide) vS_one
              rwa [cS_one] at this)
            have HSU := Lib.hid (show Ret 53 #[.agg #[.string (idN T W wt i), .string (idD T W wt i)], .agg #[.string (p i), .string ⟨#[]⟩]] (.agg #[.string (cS (lessP T W (wt i) (vS (p i))).1), .string (cD (lessP T W (wt i) (vS (p i))).2)]) from fun W' hW' => by
              have := qSub_any (idN T W wt i) (idD T W wt i) (p i) ⟨#[]⟩ W' hW' (by unfold idN; omega) (by unfold idD; omega) (by omega) (by decide)
              rw [hraw, show raw (idN T W wt i) (idD T W wt i) = red (T * (wt i : Nat)) (W : Nat) from raw_can hip] at this
              exact this)
            have HAB := Lib.hid (rAbs hdp hcd (by decide))
            have hac : CapP 161 (absP (lessP T W (wt i) (vS (p i)))) := by unfold absP; split; exact CapP.neg hcd hdp; exact hcd
            have hap : 0 < (absP (lessP T W (wt i) (vS (p i)))).2 := by unfold absP; split; exact negP_pos hdp; exact hdp
            have HCM := Lib.hid (show Ret 58 #[.agg #[.string (cS (absP (lessP T W (wt i) (vS (p i)))).1), .string (cD (absP (lessP T W (wt i) (vS (p i)))).2)], .agg #[.string ⟨#[49]⟩, .string ⟨#[]⟩]] (.int .i64 (cmpP (absP (lessP T W (wt i) (vS (p i)))) (1, 1))) from fun W' hW' => by
              have h1 := cS_size hac.1
              have h2 := cD_size hac.2
              have := qCompare_any (cS (absP (lessP T W (wt i) (vS (p i)))).1) (cD (absP (lessP T W (wt i) (vS (p i)))).2) ⟨#[49]⟩ ⟨#[]⟩ W' hW' (by omega) (by omega) (by decide) (by decide)
              rwa [raw_can hap, hraw1] at this)
            have hnc := near_cmp (T := T) (x := vS (p i)) (m := wt i) hw0
            have hrg := cmpP_rng (absP (lessP T W (wt i) (vS (p i)))) (1, 1)
            obtain ⟨c, hc⟩ : ∃ c, cmpP (absP (lessP T W (wt i) (vS (p i)))) (1, 1) = c := ⟨_, rfl⟩
            rw [hc] at HCM hnc hrg
            obtain ⟨d, hd⟩ : ∃ d, lessP T W (wt i) (vS (p i)) = d := ⟨_, rfl⟩
            rw [hd] at HSU HAB HCM
            obtain ⟨x1, hx1⟩ : ∃ x, cS d.1 = x := ⟨_, rfl⟩
            obtain ⟨x2, hx2⟩ : ∃ x, cD d.2 = x := ⟨_, rfl⟩
            obtain ⟨y1, hy1⟩ : ∃ x, cS (absP d).1 = x := ⟨_, rfl⟩
            obtain ⟨y2, hy2⟩ : ∃ x, cD (absP d).2 = x := ⟨_, rfl⟩
            obtain ⟨un, hun⟩ : ∃ x, idN T W wt i = x := ⟨_, rfl⟩
            obtain ⟨ud, hud⟩ : ∃ x, idD T W wt i = x := ⟨_, rfl⟩
            rw [hx1, hx2, hun, hud] at HSU
            rw [hx1, hx2, hy1, hy2] at HAB
            rw [hy1, hy2] at HCM
            rw [hun] at m2 A2
            rw [hud] at m3 A3
            have hNI := HN.out
            have hw1 : IntKind.i64.wrap ((i : Int) + 1) = (i : Int) + 1 := IntWalk.i64_in _ (by omega)
            obtain ⟨q, hq⟩ : ∃ q, nearP T W (vS (p i)) (wt i) = q := ⟨_, rfl⟩
            have HQ := Lib.hid hq
            rw [hq] at hnc
            obtain ⟨pk, hpk⟩ : ∃ x, p i = x := ⟨_, rfl⟩
            rw [hpk] at HOF HSU m1 A1
            clear hA1 hA2 hA3 hsz hpc hxc hrd s1 s2 hW hip hnp hcd hdp hraw hraw1 hac hap hc hd hx1 hx2 hy1 hy2 hun hud hNI hq hpk hpb hzb
            have hcq : (q = true ∧ c = -1) ∨ (q = false ∧ c = 0) ∨ (q = false ∧ c = 1) := by
              rcases hrg with e | e | e
              · exact Or.inl ⟨hnc.1 (by omega), e⟩
              · refine Or.inr (Or.inl ⟨?_, e⟩)
                cases q with
                | false => rfl
                | true => have := hnc.2 rfl; omega
              · refine Or.inr (Or.inr ⟨?_, e⟩)
                cases q with
                | false => rfl
                | true => have := hnc.2 rfl; omega
            clear hnc hrg
            rcases hcq with ⟨rfl, rfl⟩ | ⟨rfl, rfl⟩ | ⟨rfl, rfl⟩
            · have HN2 := Lib.hid (show ∀ j, j < i + 1 → nearP T W (vS (p j)) (wt j) = true from fun j hj => by
                by_cases e : j = i
                · subst e; exact HQ.out
                · exact HN.out j (by omega))
              go_wp2_with fail
              go_region_held3 (fun w' => w'.cell? ⟨pb, po + i, none⟩ = some (.string pk) ∧ w'.cell? ⟨zb, zo + i * 2, none⟩ = some (.string un) ∧ w'.cell? ⟨zb, zo + i * 2 + 1, none⟩ = some (.string ud))
                (go_keep)
                (first
                  | (go_at_call 54;
                               (first
                               | (with_reducible refine Calls.mono (Ret.call HOF.out _ (by first | exact HG1.out.below HB.out | exact HG1.out.below (below_drew HB.out) | exact HG1.out.below (below_drewN HB.out _))) ?_)
                               | (with_reducible refine Calls.mono (Ret.call HO1.out _ (by first | exact HG1.out.below HB.out | exact HG1.out.below (below_drew HB.out) | exact HG1.out.below (below_drewN HB.out _))) ?_));
                               (rintro _ WX ⟨rfl, hB1⟩);
                               (have HB2 := Lib.hid (show Below w1.heap.size w1 WX from by first | exact HB.out.trans (hB1.mono HB.out.size) | exact (below_drew HB.out).trans (hB1.mono HB.out.size) | exact (below_drewN HB.out _).trans (hB1.mono HB.out.size)));
                               (have m1 := (HB2.out.cell (p := ⟨pb, po + i, none⟩) (World.block_lt_of_cell? w1 _ A1.out)).trans A1.out);
                               (have m2 := (HB2.out.cell (p := ⟨zb, zo + i * 2, none⟩) (World.block_lt_of_cell? w1 _ A2.out)).trans A2.out);
                               (have m3 := (HB2.out.cell (p := ⟨zb, zo + i * 2 + 1, none⟩) (World.block_lt_of_cell? w1 _ A3.out)).trans A3.out);
                               (clear HB hB1);
                               (have HB := HB2);
                               (clear HB2))
                  | (go_at_call 53;
                               (first
                               | (with_reducible refine Calls.mono (Ret.call HSU.out _ (by first | exact HG1.out.below HB.out | exact HG1.out.below (below_drew HB.out) | exact HG1.out.below (below_drewN HB.out _))) ?_));
                               (rintro _ WX ⟨rfl, hB1⟩);
                               (have HB2 := Lib.hid (show Below w1.heap.size w1 WX from by first | exact HB.out.trans (hB1.mono HB.out.size) | exact (below_drew HB.out).trans (hB1.mono HB.out.size) | exact (below_drewN HB.out _).trans (hB1.mono HB.out.size)));
                               (have m1 := (HB2.out.cell (p := ⟨pb, po + i, none⟩) (World.block_lt_of_cell? w1 _ A1.out)).trans A1.out);
                               (have m2 := (HB2.out.cell (p := ⟨zb, zo + i * 2, none⟩) (World.block_lt_of_cell? w1 _ A2.out)).trans A2.out);
                               (have m3 := (HB2.out.cell (p := ⟨zb, zo + i * 2 + 1, none⟩) (World.block_lt_of_cell? w1 _ A3.out)).trans A3.out);
                               (clear HB hB1);
                               (have HB := HB2);
                               (clear HB2))
                  | (go_at_call 51;
                               (first
                               | (with_reducible refine Calls.mono (Ret.call HAB.out _ (by first | exact HG1.out.below HB.out | exact HG1.out.below (below_drew HB.out) | exact HG1.out.below (below_drewN HB.out _))) ?_));
                               (rintro _ WX ⟨rfl, hB1⟩);
                               (have HB2 := Lib.hid (show Below w1.heap.size w1 WX from by first | exact HB.out.trans (hB1.mono HB.out.size) | exact (below_drew HB.out).trans (hB1.mono HB.out.size) | exact (below_drewN HB.out _).trans (hB1.mono HB.out.size)));
                               (have m1 := (HB2.out.cell (p := ⟨pb, po + i, none⟩) (World.block_lt_of_cell? w1 _ A1.out)).trans A1.out);
                               (have m2 := (HB2.out.cell (p := ⟨zb, zo + i * 2, none⟩) (World.block_lt_of_cell? w1 _ A2.out)).trans A2.out);
                               (have m3 := (HB2.out.cell (p := ⟨zb, zo + i * 2 + 1, none⟩) (World.block_lt_of_cell? w1 _ A3.out)).trans A3.out);
                               (clear HB hB1);
                               (have HB := HB2);
                               (clear HB2))
                  | (go_at_call 58;
                               (first
                               | (with_reducible refine Calls.mono (Ret.call HCM.out _ (by first | exact HG1.out.below HB.out | exact HG1.out.below (below_drew HB.out) | exact HG1.out.below (below_drewN HB.out _))) ?_));
                               (rintro _ WX ⟨rfl, hB1⟩);
                               (have HB2 := Lib.hid (show Below w1.heap.size w1 WX from by first | exact HB.out.trans (hB1.mono HB.out.size) | exact (below_drew HB.out).trans (hB1.mono HB.out.size) | exact (below_drewN HB.out _).trans (hB1.mono HB.out.size)));
                               (have m1 := (HB2.out.cell (p := ⟨pb, po + i, none⟩) (World.block_lt_of_cell? w1 _ A1.out)).trans A1.out);
                               (have m2 := (HB2.out.cell (p := ⟨zb, zo + i * 2, none⟩) (World.block_lt_of_cell? w1 _ A2.out)).trans A2.out);
                               (have m3 := (HB2.out.cell (p := ⟨zb, zo + i * 2 + 1, none⟩) (World.block_lt_of_cell? w1 _ A3.out)).trans A3.out);
                               (clear HB hB1);
                               (have HB := HB2);
                               (clear HB2)))
              all_goals go_wp2_with fail
              all_goals go_roundw
              case rel => exact ⟨i + 1, by omega, by simp, HN2, by first | exact HB | exact Lib.hid (below_drew HB.out) | exact Lib.hid (below_drewN HB.out _)⟩
              case measure => simp [intOf]; omega
            · have HE := Lib.hid (R3.out HA.out HS2.out i hlt2 HQ.out)
              go_wp2_with fail
              go_region_held3 (fun w' => w'.cell? ⟨pb, po + i, none⟩ = some (.string pk) ∧ w'.cell? ⟨zb, zo + i * 2, none⟩ = some (.string un) ∧ w'.cell? ⟨zb, zo + i * 2 + 1, none⟩ = some (.string ud))
                (go_keep)
                (first
                  | (go_at_call 54;
                               (first
                               | (with_reducible refine Calls.mono (Ret.call HOF.out _ (by first | exact HG1.out.below HB.out | exact HG1.out.below (below_drew HB.out) | exact HG1.out.below (below_drewN HB.out _))) ?_)
                               | (with_reducible refine Calls.mono (Ret.call HO1.out _ (by first | exact HG1.out.below HB.out | exact HG1.out.below (below_drew HB.out) | exact HG1.out.below (below_drewN HB.out _))) ?_));
                               (rintro _ WX ⟨rfl, hB1⟩);
                               (have HB2 := Lib.hid (show Below w1.heap.size w1 WX from by first | exact HB.out.trans (hB1.mono HB.out.size) | exact (below_drew HB.out).trans (hB1.mono HB.out.size) | exact (below_drewN HB.out _).trans (hB1.mono HB.out.size)));
                               (have m1 := (HB2.out.cell (p := ⟨pb, po + i, none⟩) (World.block_lt_of_cell? w1 _ A1.out)).trans A1.out);
                               (have m2 := (HB2.out.cell (p := ⟨zb, zo + i * 2, none⟩) (World.block_lt_of_cell? w1 _ A2.out)).trans A2.out);
                               (have m3 := (HB2.out.cell (p := ⟨zb, zo + i * 2 + 1, none⟩) (World.block_lt_of_cell? w1 _ A3.out)).trans A3.out);
                               (clear HB hB1);
                               (have HB := HB2);
                               (clear HB2))
                  | (go_at_call 53;
                               (first
                               | (with_reducible refine Calls.mono (Ret.call HSU.out _ (by first | exact HG1.out.below HB.out | exact HG1.out.below (below_drew HB.out) | exact HG1.out.below (below_drewN HB.out _))) ?_));
                               (rintro _ WX ⟨rfl, hB1⟩);
                               (have HB2 := Lib.hid (show Below w1.heap.size w1 WX from by first | exact HB.out.trans (hB1.mono HB.out.size) | exact (below_drew HB.out).trans (hB1.mono HB.out.size) | exact (below_drewN HB.out _).trans (hB1.mono HB.out.size)));
                               (have m1 := (HB2.out.cell (p := ⟨pb, po + i, none⟩) (World.block_lt_of_cell? w1 _ A1.out)).trans A1.out);
                               (have m2 := (HB2.out.cell (p := ⟨zb, zo + i * 2, none⟩) (World.block_lt_of_cell? w1 _ A2.out)).trans A2.out);
                               (have m3 := (HB2.out.cell (p := ⟨zb, zo + i * 2 + 1, none⟩) (World.block_lt_of_cell? w1 _ A3.out)).trans A3.out);
                               (clear HB hB1);
                               (have HB := HB2);
                               (clear HB2))
                  | (go_at_call 51;
                               (first
                               | (with_reducible refine Calls.mono (Ret.call HAB.out _ (by first | exact HG1.out.below HB.out | exact HG1.out.below (below_drew HB.out) | exact HG1.out.below (below_drewN HB.out _))) ?_));
                               (rintro _ WX ⟨rfl, hB1⟩);
                               (have HB2 := Lib.hid (show Below w1.heap.size w1 WX from by first | exact HB.out.trans (hB1.mono HB.out.size) | exact (below_drew HB.out).trans (hB1.mono HB.out.size) | exact (below_drewN HB.out _).trans (hB1.mono HB.out.size)));
                               (have m1 := (HB2.out.cell (p := ⟨pb, po + i, none⟩) (World.block_lt_of_cell? w1 _ A1.out)).trans A1.out);
                               (have m2 := (HB2.out.cell (p := ⟨zb, zo + i * 2, none⟩) (World.block_lt_of_cell? w1 _ A2.out)).trans A2.out);
                               (have m3 := (HB2.out.cell (p := ⟨zb, zo + i * 2 + 1, none⟩) (World.block_lt_of_cell? w1 _ A3.out)).trans A3.out);
                               (clear HB hB1);
                               (have HB := HB2);
                               (clear HB2))
                  | (go_at_call 58;
                               (first
                               | (with_reducible refine Calls.mono (Ret.call HCM.out _ (by first | exact HG1.out.below HB.out | exact HG1.out.below (below_drew HB.out) | exact HG1.out.below (below_drewN HB.out _))) ?_));
                               (rintro _ WX ⟨rfl, hB1⟩);
                               (have HB2 := Lib.hid (show Below w1.heap.size w1 WX from by first | exact HB.out.trans (hB1.mono HB.out.size) | exact (below_drew HB.out).trans (hB1.mono HB.out.size) | exact (below_drewN HB.out _).trans (hB1.mono HB.out.size)));
                               (have m1 := (HB2.out.cell (p := ⟨pb, po + i, none⟩) (World.block_lt_of_cell? w1 _ A1.out)).trans A1.out);
                               (have m2 := (HB2.out.cell (p := ⟨zb, zo + i * 2, none⟩) (World.block_lt_of_cell? w1 _ A2.out)).trans A2.out);
                               (have m3 := (HB2.out.cell (p := ⟨zb, zo + i * 2 + 1, none⟩) (World.block_lt_of_cell? w1 _ A3.out)).trans A3.out);
                               (clear HB hB1);
                               (have HB := HB2);
                               (clear HB2)))
              all_goals go_wp2_with fail
              all_goals go_ret
              all_goals exact ⟨by rw [HE.out]; rfl, HB0.out.trans ((show Below w1.heap.size w1 _ from by first | exact HB.out | exact below_drew HB.out | exact below_drewN HB.out _).mono HB0.out.size)⟩
            · have HE := Lib.hid (R3.out HA.out HS2.out i hlt2 HQ.out)
              go_wp2_with fail
              go_region_held3 (fun w' => w'.cell? ⟨pb, po + i, none⟩ = some (.string pk) ∧ w'.cell? ⟨zb, zo + i * 2, none⟩ = some (.string un) ∧ w'.cell? ⟨zb, zo + i * 2 + 1, none⟩ = some (.string ud))
                (go_keep)
                (first
                  | (go_at_call 54;
                               (first
                               | (with_reducible refine Calls.mono (Ret.call HOF.out _ (by first | exact HG1.out.below HB.out | exact HG1.out.below (below_drew HB.out) | exact HG1.out.below (below_drewN HB.out _))) ?_)
                               | (with_reducible refine Calls.mono (Ret.call HO1.out _ (by first | exact HG1.out.below HB.out | exact HG1.out.below (below_drew HB.out) | exact HG1.out.below (below_drewN HB.out _))) ?_));
                               (rintro _ WX ⟨rfl, hB1⟩);
                               (have HB2 := Lib.hid (show Below w1.heap.size w1 WX from by first | exact HB.out.trans (hB1.mono HB.out.size) | exact (below_drew HB.out).trans (hB1.mono HB.out.size) | exact (below_drewN HB.out _).trans (hB1.mono HB.out.size)));
                               (have m1 := (HB2.out.cell (p := ⟨pb, po + i, none⟩) (World.block_lt_of_cell? w1 _ A1.out)).trans A1.out);
                               (have m2 := (HB2.out.cell (p := ⟨zb, zo + i * 2, none⟩) (World.block_lt_of_cell? w1 _ A2.out)).trans A2.out);
                               (have m3 := (HB2.out.cell (p := ⟨zb, zo + i * 2 + 1, none⟩) (World.block_lt_of_cell? w1 _ A3.out)).trans A3.out);
                               (clear HB hB1);
                               (have HB := HB2);
                               (clear HB2))
                  | (go_at_call 53;
                               (first
                               | (with_reducible refine Calls.mono (Ret.call HSU.out _ (by first | exact HG1.out.below HB.out | exact HG1.out.below (below_drew HB.out) | exact HG1.out.below (below_drewN HB.out _))) ?_));
                               (rintro _ WX ⟨rfl, hB1⟩);
                               (have HB2 := Lib.hid (show Below w1.heap.size w1 WX from by first | exact HB.out.trans (hB1.mono HB.out.size) | exact (below_drew HB.out).trans (hB1.mono HB.out.size) | exact (below_drewN HB.out _).trans (hB1.mono HB.out.size)));
                               (have m1 := (HB2.out.cell (p := ⟨pb, po + i, none⟩) (World.block_lt_of_cell? w1 _ A1.out)).trans A1.out);
                               (have m2 := (HB2.out.cell (p := ⟨zb, zo + i * 2, none⟩) (World.block_lt_of_cell? w1 _ A2.out)).trans A2.out);
                               (have m3 := (HB2.out.cell (p := ⟨zb, zo + i * 2 + 1, none⟩) (World.block_lt_of_cell? w1 _ A3.out)).trans A3.out);
                               (clear HB hB1);
                               (have HB := HB2);
                               (clear HB2))
                  | (go_at_call 51;
                               (first
                               | (with_reducible refine Calls.mono (Ret.call HAB.out _ (by first | exact HG1.out.below HB.out | exact HG1.out.below (below_drew HB.out) | exact HG1.out.below (below_drewN HB.out _))) ?_));
                               (rintro _ WX ⟨rfl, hB1⟩);
                               (have HB2 := Lib.hid (show Below w1.heap.size w1 WX from by first | exact HB.out.trans (hB1.mono HB.out.size) | exact (below_drew HB.out).trans (hB1.mono HB.out.size) | exact (below_drewN HB.out _).trans (hB1.mono HB.out.size)));
                               (have m1 := (HB2.out.cell (p := ⟨pb, po + i, none⟩) (World.block_lt_of_cell? w1 _ A1.out)).trans A1.out);
                               (have m2 := (HB2.out.cell (p := ⟨zb, zo + i * 2, none⟩) (World.block_lt_of_cell? w1 _ A2.out)).trans A2.out);
                               (have m3 := (HB2.out.cell (p := ⟨zb, zo + i * 2 + 1, none⟩) (World.block_lt_of_cell? w1 _ A3.out)).trans A3.out);
                               (clear HB hB1);
                               (have HB := HB2);
                               (clear HB2))
                  | (go_at_call 58;
                               (first
                               | (with_reducible refine Calls.mono (Ret.call HCM.out _ (by first | exact HG1.out.below HB.out | exact HG1.out.below (below_drew HB.out) | exact HG1.out.below (below_drewN HB.out _))) ?_));
                               (rintro _ WX ⟨rfl, hB1⟩);
                               (have HB2 := Lib.hid (show Below w1.heap.size w1 WX from by first | exact HB.out.trans (hB1.mono HB.out.size) | exact (below_drew HB.out).trans (hB1.mono HB.out.size) | exact (below_drewN HB.out _).trans (hB1.mono HB.out.size)));
                               (have m1 := (HB2.out.cell (p := ⟨pb, po + i, none⟩) (World.block_lt_of_cell? w1 _ A1.out)).trans A1.out);
                               (have m2 := (HB2.out.cell (p := ⟨zb, zo + i * 2, none⟩) (World.block_lt_of_cell? w1 _ A2.out)).trans A2.out);
                               (have m3 := (HB2.out.cell (p := ⟨zb, zo + i * 2 + 1, none⟩) (World.block_lt_of_cell? w1 _ A3.out)).trans A3.out);
                               (clear HB hB1);
                               (have HB := HB2);
                               (clear HB2)))
              all_goals go_wp2_with fail
              all_goals go_ret
              all_goals exact ⟨by rw [HE.out]; rfl, HB0.out.trans ((show Below w1.heap.size w1 _ from by first | exact HB.out | exact below_drew HB.out | exact below_drewN HB.out _).mono HB0.out.size)⟩
          · obtain rfl : i = k := by omega
            have HE := Lib.hid (R4.out HA.out HS2.out HN.out)
            go_wp2_with fail
            go_ret
            exact ⟨by rw [HE.out]; rfl, HB0.out.trans (HB.out.mono HB0.out.size)⟩
      · have HE := Lib.hid (R2.out HA.out hs)
        have hne : ((cS (sumS p k)).toList == t.toList) = false := by
          rw [beq_toList]
          exact decide_eq_false fun e => hs (by rw [← vS_cS (sumS p k), e, HT.out])
        obtain ⟨v, hv⟩ : ∃ v, cS (sumS p k) = v := ⟨_, rfl⟩
        rw [hv] at HSM hne
        clear hs hv
        go_wp2_with fail
        refine (HSM.out _ HP1.out).mono ?_
        rintro _ w2 ⟨rfl, hB2⟩
        go_wp2_with fail
        go_ret
        exact ⟨by rw [HE.out]; rfl, HB0.out.trans (hB2.mono HB0.out.size)⟩

theorem rChk (w : World) (hG : Ground w) (t : ByteArray) (xa ya : Option Addr) (n m cap cap2 : Nat) (s p : Nat → ByteArray) (hr : Rs w xa n s) (hf : FitQ n t s) (hp : Rs w ya m p) (ht30 : t.size ≤ 30) (hs30 : ∀ i, i < n → (s i).size ≤ 30) (hps : ∀ i, i < m → (p i).size ≤ 30) :
    Calls Tryz.prog 31 #[.string t, .slice xa n cap, .slice ya m cap2] w fun e w' => e = .returned (.int .i64 (checkE t n s m p)) ∧ Below w.heap.size w w' := by
  unfold checkE
  by_cases h : weighE t n s ≠ 0
  · rw [if_pos h]
    exact rChk_w w t xa ya n m cap cap2 s hr hf h
  rw [if_neg h]
  have h' : weighE t n s = 0 := by omega
  by_cases hnm : n ≠ m
  · rw [if_pos hnm]
    exact rChk_n w hG t xa ya n m cap cap2 s hr hf h' hnm
  rw [if_neg hnm]
  obtain rfl : n = m := by omega
  have hna : (∀ k, k < n → isCan (p k) = true) → ¬ allC n p = false := fun hall => by rw [allC_iff.2 hall]; decide
  refine rChk_l w hG t xa ya n cap cap2 s p hr hf hp (fun i hi => by have := hps i hi; omega) ht30 hs30 h' _ (fun k hk hc => if_pos (allC_false hk hc)) (fun hall hs => ?_) (fun hall hs k hk hn => ?_) (fun hall hs hn => ?_)
  · rw [if_neg (hna hall), if_pos hs]
  · rw [if_neg (hna hall), if_neg (fun q => q hs), if_neg (by rw [nearS_false hk hn]; decide)]
  · rw [if_neg (hna hall), if_neg (fun q => q hs), if_pos (nearS_true hn)]

set_option maxRecDepth 100000 in
set_option maxHeartbeats 16000000 in
theorem ach_long1 (t : ByteArray) (xa ya : Option Addr) (n m cap cap2 : Nat) (w : World) (hG : Ground w) (ht : over t = true) :
    Calls Tryz.prog 5 #[.string t, .slice xa n cap, .slice ya m cap2] w fun r w' => r = .returned (.bool true) ∧ Below w.heap.size w w' := by
  have HL := Lib.hid (rGreat_lit w hG [t] (by simp))
  simp only [List.length_cons, List.length_nil, Nat.zero_add, List.map_cons, List.map_nil] at HL
  rw [great1, ht] at HL
  have HG := Lib.hid hG
  have HAW := Lib.hid aawake
  clear ht hG
  go_enter Tryz.func5, Tryz.ntmps5
  go_wp2_with fail
  refine HL.out.mono ?_
  rintro _ w0 ⟨rfl, hb⟩
  go_wp2_with fail
  refine (HAW.out _ (HG.out.below hb)).mono ?_
  rintro _ _ ⟨rfl, hB⟩
  replace hb := hb.trans (hB.mono hb.size)
  clear hB
  go_wp2_with fail
  go_ret
  exact ⟨rfl, hb⟩

set_option maxRecDepth 100000 in
set_option maxHeartbeats 16000000 in
theorem ach_long2 (t : ByteArray) (xa ya : Option Addr) (n m cap cap2 : Nat) (s : Nat → ByteArray) (w : World) (hG : Ground w) (hr : Rs w xa n s) (hmax : n ≤ 9223372036854775807) (ht : over t = false) (hl : great n s = true) :
    Calls Tryz.prog 5 #[.string t, .slice xa n cap, .slice ya m cap2] w fun r w' => r = .returned (.bool true) ∧ Below w.heap.size w w' := by
  have HL := Lib.hid (rGreat_lit w hG [t] (by simp))
  simp only [List.length_cons, List.length_nil, Nat.zero_add, List.map_cons, List.map_nil] at HL
  rw [great1, ht] at HL
  have HG := Lib.hid hG
  have HAW := Lib.hid aawake
  have HR := Lib.hid hr
  have HGR := Lib.hid (fun W hG hr => rGreat W hG xa n cap s hr hmax)
  rw [hl] at HGR
  clear ht hG hr hmax hl
  go_enter Tryz.func5, Tryz.ntmps5
  go_wp2_with fail
  refine HL.out.mono ?_
  rintro _ w0 ⟨rfl, hb⟩
  go_wp2_with fail
  refine (HGR.out _ (HG.out.below hb) (HR.out.belowAt hb (Nat.le_refl _))).mono ?_
  rintro _ _ ⟨rfl, hB⟩
  replace hb := hb.trans (hB.mono hb.size)
  clear hB
  go_wp2_with fail
  refine (HAW.out _ (HG.out.below hb)).mono ?_
  rintro _ _ ⟨rfl, hB⟩
  replace hb := hb.trans (hB.mono hb.size)
  clear hB
  go_wp2_with fail
  go_ret
  exact ⟨rfl, hb⟩

set_option maxRecDepth 100000 in
set_option maxHeartbeats 16000000 in
theorem ach_long3 (t : ByteArray) (xa ya : Option Addr) (n m cap cap2 : Nat) (s p : Nat → ByteArray) (w : World) (hG : Ground w) (hr : Rs w xa n s) (hp : Rs w ya m p) (hmax : n ≤ 9223372036854775807) (ht : over t = false) (hmax2 : m ≤ 9223372036854775807) (hl : great n s = false) (hl2 : great m p = true) :
    Calls Tryz.prog 5 #[.string t, .slice xa n cap, .slice ya m cap2] w fun r w' => r = .returned (.bool true) ∧ Below w.heap.size w w' := by
  have HL := Lib.hid (rGreat_lit w hG [t] (by simp))
  simp only [List.length_cons, List.length_nil, Nat.zero_add, List.map_cons, List.map_nil] at HL
  rw [great1, ht] at HL
  have HG := Lib.hid hG
  have HAW := Lib.hid aawake
  have HR := Lib.hid hr
  have HGR := Lib.hid (fun W hG hr => rGreat W hG xa n cap s hr hmax)
  rw [hl] at HGR
  have HP := Lib.hid hp
  have HGP := Lib.hid (fun W hG hr => rGreat W hG ya m cap2 p hr hmax2)
  rw [hl2] at HGP
  clear ht hG hr hmax hl hp hmax2 hl2
  go_enter Tryz.func5, Tryz.ntmps5
  go_wp2_with fail
  refine HL.out.mono ?_
  rintro _ w0 ⟨rfl, hb⟩
  go_wp2_with fail
  refine (HGR.out _ (HG.out.below hb) (HR.out.belowAt hb (Nat.le_refl _))).mono ?_
  rintro _ _ ⟨rfl, hB⟩
  replace hb := hb.trans (hB.mono hb.size)
  clear hB
  go_wp2_with fail
  refine (HGP.out _ (HG.out.below hb) (HP.out.belowAt hb (Nat.le_refl _))).mono ?_
  rintro _ _ ⟨rfl, hB⟩
  replace hb := hb.trans (hB.mono hb.size)
  clear hB
  go_wp2_with fail
  refine (HAW.out _ (HG.out.below hb)).mono ?_
  rintro _ _ ⟨rfl, hB⟩
  replace hb := hb.trans (hB.mono hb.size)
  clear hB
  go_wp2_with fail
  go_ret
  exact ⟨rfl, hb⟩

set_option maxRecDepth 100000 in
set_option maxHeartbeats 16000000 in
theorem ach_ok (t : ByteArray) (xa ya : Option Addr) (n m cap cap2 : Nat) (s p : Nat → ByteArray) (w : World) (hG : Ground w) (hr : Rs w xa n s) (hp : Rs w ya m p) (hmax : n ≤ 9223372036854775807) (ht : over t = false) (hmax2 : m ≤ 9223372036854775807) (hl : great n s = false) (hl2 : great m p = false) :
    Calls Tryz.prog 5 #[.string t, .slice xa n cap, .slice ya m cap2] w fun r w' => r = .returned (.bool true) ∧ Below w.heap.size w w' := by
  have HL := Lib.hid (rGreat_lit w hG [t] (by simp))
  simp only [List.length_cons, List.length_nil, Nat.zero_add, List.map_cons, List.map_nil] at HL
  rw [great1, ht] at HL
  have HG := Lib.hid hG
  have HAW := Lib.hid aawake
  have HR := Lib.hid hr
  have HGR := Lib.hid (fun W hG hr => rGreat W hG xa n cap s hr hmax)
  rw [hl] at HGR
  have HP := Lib.hid hp
  have HGP := Lib.hid (fun W hG hr => rGreat W hG ya m cap2 p hr hmax2)
  rw [hl2] at HGP
  obtain ⟨hf, ht30⟩ := fitW_of ht hl
  obtain ⟨g1, g2⟩ := great_false hl
  obtain ⟨g3, g4⟩ := great_false hl2
  have hq : FitQ n t s := ⟨by omega, by omega, by omega, fun _ i hi => by have := g2 i hi; omega⟩
  have HA := Lib.hid (fun W hG hr hp => aCheck W hG t xa ya n m cap cap2 s p hr hf hp (fun e i hi => by have := g4 i (by omega); omega))
  have HB := Lib.hid (fun W hG hr hp => rChk W hG t xa ya n m cap cap2 s p hr hq hp ht30 g2 g4)
  obtain ⟨c, hc⟩ : ∃ c, checkE t n s m p = c := ⟨_, rfl⟩
  rw [hc] at HA HB
  clear ht hG hr hmax hl hp hmax2 hl2 hf ht30 g1 g2 g3 g4 hq hc
  go_enter Tryz.func5, Tryz.ntmps5
  go_wp2_with fail
  refine HL.out.mono ?_
  rintro _ w0 ⟨rfl, hb⟩
  go_wp2_with fail
  refine (HGR.out _ (HG.out.below hb) (HR.out.belowAt hb (Nat.le_refl _))).mono ?_
  rintro _ _ ⟨rfl, hB⟩
  replace hb := hb.trans (hB.mono hb.size)
  clear hB
  go_wp2_with fail
  refine (HGP.out _ (HG.out.below hb) (HP.out.belowAt hb (Nat.le_refl _))).mono ?_
  rintro _ _ ⟨rfl, hB⟩
  replace hb := hb.trans (hB.mono hb.size)
  clear hB
  go_wp2_with fail
  refine (HA.out _ (HG.out.below hb) (HR.out.belowAt hb (Nat.le_refl _)) (HP.out.belowAt hb (Nat.le_refl _))).mono ?_
  rintro _ _ ⟨rfl, hB⟩
  replace hb := hb.trans (hB.mono hb.size)
  clear hB
  go_wp2_with fail
  refine (HB.out _ (HG.out.below hb) (HR.out.belowAt hb (Nat.le_refl _)) (HP.out.belowAt hb (Nat.le_refl _))).mono ?_
  rintro _ _ ⟨rfl, hB⟩
  replace hb := hb.trans (hB.mono hb.size)
  clear hB
  go_wp2_with fail
  refine (HAW.out _ (HG.out.below hb)).mono ?_
  rintro _ _ ⟨rfl, hB⟩
  replace hb := hb.trans (hB.mono hb.size)
  clear hB
  go_wp2_with fail
  go_ret
  exact ⟨rfl, hb⟩

theorem ach_any (t : ByteArray) (xa ya : Option Addr) (n m cap cap2 : Nat) (s p : Nat → ByteArray) (w : World) (hG : Ground w) (hr : Rs w xa n s) (hp : Rs w ya m p) (hmax : n ≤ 9223372036854775807) (hmax2 : m ≤ 9223372036854775807) :
    Calls Tryz.prog 5 #[.string t, .slice xa n cap, .slice ya m cap2] w fun r w' => r = .returned (.bool true) ∧ Below w.heap.size w w' := by
  cases ht : over t with
  | true => exact ach_long1 t xa ya n m cap cap2 w hG ht
  | false =>
    cases hl : great n s with
    | true => exact ach_long2 t xa ya n m cap cap2 s w hG hr hmax ht hl
    | false =>
      cases hl2 : great m p with
      | true => exact ach_long3 t xa ya n m cap cap2 s p w hG hr hp hmax ht hmax2 hl hl2
      | false => exact ach_ok t xa ya n m cap cap2 s p w hG hr hp hmax ht hmax2 hl hl2

end Go.Proofs.YthhihdihkddakaaGreatDoor
