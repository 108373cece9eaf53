/- The reference implementation of layer 1: Div of long numbers: the walk. -/
import Derived.Test.YtahnkmkmoalbhaaGreatDoorZBF
namespace Go.Proofs.YtahnkmkmoalbhaaGreatDoor
open Go.RowKit

/-- quotient and remainder with their signs, where nothing is to be corrected -/
theorem div_vals {A Bv : Int} {na nb : Bool} {X Y Q R : Int} (hA : A = sg na X) (hB : Bv = sg nb Y) (hx : X = Q * Y + R) (h0 : 0 ≤ R) (h1 : R < Y) (h : na = nb ∨ R = 0) :
    sg (!(na == nb)) Q = Int.fdiv A Bv ∧ sg na R = Int.fmod A Bv := by
  by_cases hc : na = nb
  · subst hc
    have := div_same hA hB hx h0 h1
    simpa using this
  · have hR : R = 0 := by rcases h with h | h; exact absurd h hc; exact h
    have := div_exact hA hB hx hR h1 hc
    have e : (!(na == nb)) = true := by simpa using hc
    rw [e, this.1, ← this.2, hR]
    exact ⟨rfl, by cases na <;> cases nb <;> rfl⟩
theorem div_fixed {A Bv : Int} {na nb : Bool} {X Y Q R : Int} (hA : A = sg na X) (hB : Bv = sg nb Y) (hx : X = Q * Y + R) (h0 : 0 < R) (h1 : R < Y) (hc : na ≠ nb) :
    sg true Q + sg true 1 = Int.fdiv A Bv ∧ sg na R + sg nb Y = Int.fmod A Bv := by
  have := div_corrected hA hB hx h0 h1 hc
  rw [← this.1, ← this.2]
  constructor
  · simp [sg]; omega
  · cases na <;> cases nb <;> simp [sg] at hc ⊢ <;> omega

set_option maxRecDepth 100000 in
set_option maxHeartbeats 8000000 in
theorem rDiv_long0 (a b : ByteArray) (w : World) (ha : a.size ≤ 1000) (hb : b.size ≤ 1000) (h0 : vS b ≠ 0) (m p : Int)  (hsa : shortV a = .tuple #[.int .i64 m, .bool false]) (hsb : shortV b = .tuple #[.int .i64 p, .bool false])  :
    Calls Tryz.prog 175 #[.string a, .string b] w (DivPost w (vS a) (vS b)) := by
  have HSA := Lib.hid hsa
  have HSB := Lib.hid hsb
  clear hsa hsb
  have hla := gS_length2 a ha
  have hlb := gS_length2 b hb
  have hva := vS_sg a
  have hvb := vS_sg b
  have hyl : (gS b).length ≠ 0 := fun h => h0 (grps_nil.1 h)
  have hyn : gS b ≠ [] := by intro h; rw [h] at hyl; exact hyl rfl
  obtain ⟨na, hna⟩ : ∃ na, na = Num.sneg a.data.toList := ⟨_, rfl⟩
  obtain ⟨nb, hnb⟩ : ∃ nb, nb = Num.sneg b.data.toList := ⟨_, rfl⟩
  rw [← hna] at hva
  rw [← hnb] at hvb
  have HVA := Lib.hid hva
  have HVB := Lib.hid hvb
  have HNA := Lib.hid hna
  have HNB := Lib.hid hnb
  have HYN := Lib.hid hyn
  obtain ⟨sx, hsx⟩ : ∃ sx, sx = !(na == nb) := ⟨_, rfl⟩
  have HSX := Lib.hid hsx
  clear hva hvb hyl hyn h0 hna hnb hsx
  go_enter Tryz.func175, Tryz.ntmps175
  go_wp2_with fail
  refine (short_any a w (by omega)).mono ?_
  rintro e _ ⟨rfl, rfl⟩
  rw [HSA.out]
  go_wp2_with fail
  refine (short_any b w (by omega)).mono ?_
  rintro e _ ⟨rfl, rfl⟩
  rw [HSB.out]
  go_wp2_with fail
  refine (rRead_any a w ha).mono ?_
  rintro e w1 ⟨xa, cx, rfl, hrx, hB1⟩
  rw [← HNA.out]
  go_wp2_with fail
  refine (rRead_any b w1 hb).mono ?_
  rintro e w2 ⟨ya, cy, rfl, hry, hB2⟩
  rw [← HNB.out]
  have hrx2 := hrx.below hB2
  have hB : Below w.heap.size w w2 := hB1.trans (hB2.mono hB1.size)
  clear hB1 hB2 hrx
  obtain ⟨W0, hW0⟩ : ∃ W0, W0 = (w2.alloc (.cells #[.bool na, .slice xa (gS a).length cx] 138)).alloc (.cells #[.bool nb, .slice ya (gS b).length cy] 138) := ⟨_, rfl⟩
  have hB0 : Below w2.heap.size w2 W0 := by rw [hW0]; exact ((Below.refl _ _).alloc (Nat.le_refl _) _).alloc (by simp) _
  have hNa : NumAt W0 w2.heap.size na (.slice xa (gS a).length cx) := by rw [hW0]; exact (NumAt.made w2 na _).alloc _
  have hNb : NumAt W0 (w2.heap.size + 1) nb (.slice ya (gS b).length cy) := by
    rw [hW0]
    have := NumAt.made (w2.alloc (.cells #[.bool na, .slice xa (gS a).length cx] 138)) nb (.slice ya (gS b).length cy)
    simpa using this
  have hrx0 := hrx2.below hB0
  have hry0 := hry.below hB0
  have HBB := Lib.hid (hB.trans (hB0.mono hB.size))
  clear hrx2 hry hB hB0
  go_wp2_with fail
  rw [← hW0]
  clear hW0
  refine (rDivide_any W0 xa ya cx cy _ _ (gS a) (gS b) rfl rfl hrx0 hry0 (gS_can a) (gS_can b) HYN.out (by omega)).mono ?_
  rintro e w3 ⟨qs, rs, qa, qcap, ra, rcap, rfl, hqc, hrc, hx, hlt, hqs, hrs, hql, hrl, hB3⟩
  have hNa3 := hNa.below hB3 hNa.lt
  have hNb3 := hNb.below hB3 hNb.lt
  have hry3 := hry0.below hB3
  obtain ⟨a0, a1, _, _⟩ := hNa3.cells
  obtain ⟨b0, b1, _, _⟩ := hNb3.cells
  have HBW3 := Lib.hid (HBB.out.trans (hB3.mono HBB.out.size))
  have hr0 := Num.gval_nonneg hrc.1
  have hl1 := hNb3.lt
  have k1 := World.new_ne w3 _ a0
  have k2 := World.new_ne w3 _ b0
  have n1 : w2.heap.size ≠ w3.heap.size := by omega
  have n2 : w2.heap.size ≠ w3.heap.size + 1 := by omega
  have n3 : w2.heap.size + 1 ≠ w3.heap.size := by omega
  have n1' : w3.heap.size ≠ w2.heap.size := by omega
  have n2' : w3.heap.size + 1 ≠ w2.heap.size := by omega
  have n3' : w3.heap.size ≠ w2.heap.size + 1 := by omega
  go_wp2_with fail
  clear hNa hNb hrx0 hry0 hB3
  go_region_held3 (fun w' => w'.cell? ⟨w2.heap.size, 0, none⟩ = some (.bool na) ∧ w'.cell? ⟨w2.heap.size + 1, 0, none⟩ = some (.bool nb)) (go_keep) (fail)
  all_goals have hsx := HSX.out
  · rw [← hsx]
    obtain ⟨W4, hW4⟩ : ∃ W4, W4 = ((w3.alloc (.cells #[.bool sx, .slice qa qs.length qcap] 138)).alloc (.cells #[.bool na, .slice ra rs.length rcap] 138)).drew := ⟨_, rfl⟩
    have hQ4 : NumAt W4 w3.heap.size sx (.slice qa qs.length qcap) := by rw [hW4]; exact (NumAt.made w3 sx (.slice qa qs.length qcap)).alloc _
    have hR4 : NumAt W4 (w3.heap.size + 1) na (.slice ra rs.length rcap) := by
      rw [hW4]
      have h := NumAt.made (w3.alloc (.cells #[.bool sx, .slice qa qs.length qcap] 138)) na (.slice ra rs.length rcap)
      have h2 : NumAt ((w3.alloc (.cells #[.bool sx, .slice qa qs.length qcap] 138)).alloc (.cells #[.bool na, .slice ra rs.length rcap] 138)) (w3.heap.size + 1) na (.slice ra rs.length rcap) := by simpa using h
      exact h2
    have hB34 : Below w3.heap.size w3 W4 := by rw [hW4]; exact (((Below.refl w3.heap.size w3).alloc (Nat.le_refl _) _).alloc (by simp) _).drew
    have hNb4 := hNb3.below hB34 hNb3.lt
    have hNa4 := hNa3.below hB34 hNa3.lt
    have hqs4 := hqs.below hB34
    have hrs4 := hrs.below hB34
    have hsz4 : w3.heap.size + 2 ≤ W4.heap.size := by rw [hW4]; simp
    have HQ := Lib.hid hQ4
    have HR := Lib.hid hR4
    have HBW := Lib.hid (HBW3.out.trans (hB34.mono HBW3.out.size))
    have HN4 := Lib.hid hNb4
    have HB34 := Lib.hid hB34
    obtain ⟨x0, x1, _, _⟩ := hNa4.cells
    obtain ⟨y0, y1, _, _⟩ := hNb4.cells
    rw [← hW4]
    clear hW4 hQ4 hR4 hNb4 hNa4 hB34 a0 a1 b0 b1
    by_cases hcor : 0 < rs.length ∧ (na == nb) = false
    · obtain ⟨hrl0, hbb⟩ := hcor
      have hne : na ≠ nb := by simpa using hbb
      have hrpos := Num.gval_pos hrc (by rintro rfl; simp at hrl0)
      have hvv := div_fixed HVA.out HVB.out hx hrpos hlt hne
      have HVV := Lib.hid hvv
      have hsx2 : sx = true := by rw [hsx, hbb]; rfl
      subst hsx2
      clear hvv hne hsx hx hlt
      obtain ⟨q0, q1, qf0, qf1⟩ := HQ.out.cells
      obtain ⟨r0, r1, rf0, rf1⟩ := HR.out.cells
      go_wp2_with fail
      obtain ⟨W5, hW5⟩ : ∃ W5, W5 = W4.alloc (.cells #[.int .i64 1] 3) := ⟨_, rfl⟩
      have hB45 : Below W4.heap.size W4 W5 := by rw [hW5]; exact (Below.refl _ _).alloc (Nat.le_refl _) _
      have hone : Rd W5 (some ⟨W4.heap.size, 0, none⟩) 1 [1] := by rw [hW5]; exact ⟨by simp, fun _ => ⟨_, 0, rfl, (one_sl W4 1).sr (by simp)⟩⟩
      rw [← hW5]
      clear hW5
      refine (rAdd_num true true W5 qa (some ⟨W4.heap.size, 0, none⟩) qcap 1 _ 1 qs [1] rfl rfl (hqs4.below hB45) hone hqc ⟨Num.Norm.one (by decide) (by decide), by simp⟩ (by simp; omega)).mono ?_
      rintro e W6 ⟨g1, va, vac, vs, rfl, hvc, hvv1, hvrd, hvl, hB56, hvfr⟩
      have hB46 := hB45.trans (hB56.mono hB45.size)
      have hB36 := HB34.out.trans (hB46.mono HB34.out.size)
      have HQ6 := Lib.hid (HQ.out.below hB46 HQ.out.lt)
      have HR6 := Lib.hid (HR.out.below hB46 HR.out.lt)
      have HN6 := Lib.hid (HN4.out.below hB46 HN4.out.lt)
      have hvfar : ∀ b o, va = some ⟨b, o, none⟩ → w3.heap.size + 2 ≤ b := fun b o e => Nat.le_trans hsz4 (Nat.le_trans hB45.size (hvfr b o e))
      rw [Num.gval_one] at hvv1
      have HVV1 := Lib.hid hvv1
      obtain ⟨W7, hW7⟩ : ∃ W7, W7 = (W6.setCell ⟨w3.heap.size, 0, none⟩ (.bool g1)).setCell ⟨w3.heap.size, 1, none⟩ (.slice va vs.length vac) := ⟨_, rfl⟩
      have hB37 : Below w3.heap.size w3 W7 := by rw [hW7]; exact (hB36.setCell (p := ⟨w3.heap.size, 0, none⟩) (by simp) _).setCell (p := ⟨w3.heap.size, 1, none⟩) (by simp) _
      have hQ7 : NumAt W7 w3.heap.size g1 (.slice va vs.length vac) := by rw [hW7]; exact (HQ6.out.set0 g1).set _
      have hR7 : NumAt W7 (w3.heap.size + 1) na (.slice ra rs.length rcap) := by rw [hW7]; exact (HR6.out.setOther (a := ⟨w3.heap.size, 0, none⟩) (by simp) _).setOther (a := ⟨w3.heap.size, 1, none⟩) (by simp) _
      have hN7 := hNb3.below hB37 hNb3.lt
      have hrs7 := hrs.below hB37
      have hry7 := hry3.below hB37
      have hv7 : Rd W7 va vac vs := by rw [hW7]; exact (hvrd.setOther (a := ⟨w3.heap.size, 0, none⟩) (fun b o e => by have := hvfar b o e; simp; omega) _).setOther (a := ⟨w3.heap.size, 1, none⟩) (fun b o e => by have := hvfar b o e; simp; omega) _
      have hB7 : Below w.heap.size w W7 := HBW3.out.trans (hB37.mono HBW3.out.size)
      have HB37 := Lib.hid hB37
      have HQ7 := Lib.hid hQ7
      have HR7 := Lib.hid hR7
      have HB7 := Lib.hid hB7
      have HV7 := Lib.hid hv7
      have HFAR := Lib.hid hvfar
      obtain ⟨s0, s1, sf0, sf1⟩ := HQ6.out.cells
      obtain ⟨u0, u1, uf0, uf1⟩ := HR6.out.cells
      obtain ⟨z0, z1, _, _⟩ := HN6.out.cells
      clear q0 q1 qf0 qf1 r0 r1 rf0 rf1 hB45 hone hB56 hvfr hvv1 hB46 hB36 hqs4 hrs4 y0 y1 x0 x1 hB37 hQ7 hR7 hN7 hv7 hB7 hvfar hvrd
      go_wp2_with fail
      rw [← hW7]
      clear hW7 s0 s1 sf0 sf1 u0 u1 uf0 uf1 z0 z1
      refine (rAdd_num na nb W7 ra ya rcap cy _ _ rs (gS b) rfl rfl hrs7 hry7 hrc (gS_can b) (by omega)).mono ?_
      rintro e W8 ⟨g2, ua, uac, us, rfl, huc, huv, hurd, hul, hB78, hufr⟩
      have HQ8 := Lib.hid (HQ7.out.below hB78 HQ7.out.lt)
      have HR8 := Lib.hid (HR7.out.below hB78 HR7.out.lt)
      have HUV := Lib.hid huv
      have hufar : ∀ b o, ua = some ⟨b, o, none⟩ → w3.heap.size + 2 ≤ b := fun b o e => by
        have h1 := hufr b o e
        have h2 := HQ7.out.lt
        have h3 := HR7.out.lt
        omega
      obtain ⟨W9, hW9⟩ : ∃ W9, W9 = (W8.setCell ⟨(w3.heap.size + 1), 0, none⟩ (.bool g2)).setCell ⟨(w3.heap.size + 1), 1, none⟩ (.slice ua us.length uac) := ⟨_, rfl⟩
      have hQ9 : NumAt W9 w3.heap.size g1 (.slice va vs.length vac) := by rw [hW9]; exact (HQ8.out.setOther (a := ⟨(w3.heap.size + 1), 0, none⟩) (by simp) _).setOther (a := ⟨(w3.heap.size + 1), 1, none⟩) (by simp) _
      have hR9 : NumAt W9 (w3.heap.size + 1) g2 (.slice ua us.length uac) := by rw [hW9]; exact (HR8.out.set0 g2).set _
      have hv9 : Rd W9 va vac vs := by rw [hW9]; exact ((HV7.out.below hB78).setOther (a := ⟨(w3.heap.size + 1), 0, none⟩) (fun b o e => by have := HFAR.out b o e; simp; omega) _).setOther (a := ⟨(w3.heap.size + 1), 1, none⟩) (fun b o e => by have := HFAR.out b o e; simp; omega) _
      have hu9 : Rd W9 ua uac us := by rw [hW9]; exact (hurd.setOther (a := ⟨(w3.heap.size + 1), 0, none⟩) (fun b o e => by have := hufar b o e; simp; omega) _).setOther (a := ⟨(w3.heap.size + 1), 1, none⟩) (fun b o e => by have := hufar b o e; simp; omega) _
      have hB39 : Below w3.heap.size w3 W9 := by rw [hW9]; exact ((HB37.out.trans (hB78.mono HB37.out.size)).setCell (p := ⟨(w3.heap.size + 1), 0, none⟩) (by simp) _).setCell (p := ⟨(w3.heap.size + 1), 1, none⟩) (by simp) _
      obtain ⟨s0, s1, sf0, sf1⟩ := HQ8.out.cells
      obtain ⟨u0, u1, uf0, uf1⟩ := HR8.out.cells
      replace HQ := Lib.hid hQ9
      replace HR := Lib.hid hR9
      replace HBW := Lib.hid (HBW3.out.trans (hB39.mono HBW3.out.size))
      have HQD := Lib.hid (fun q => hv9.drewN q)
      have HRD := Lib.hid (fun q => hu9.drewN q)
      have HZ1 := Lib.hid hvc.1
      have HZ2 := Lib.hid huc.1
      have HL1 := Lib.hid (show vs.length ≤ 1000 by omega)
      have HL2 := Lib.hid (show us.length ≤ 1000 by omega)
      have HV1 := Lib.hid (HVV1.out.trans HVV.out.1)
      have HV2 := Lib.hid (HUV.out.trans HVV.out.2)
      clear huv hufar hQ9 hR9 hv9 hu9 hB39 hurd hB78 hufr hrs7 hry7
      go_wp2_with fail
      rw [← hW9]
      clear hW9 s0 s1 sf0 sf1 u0 u1 uf0 uf1
      obtain ⟨q0, q1, _, _⟩ := HQ.out.cells
      obtain ⟨r0, r1, _, _⟩ := HR.out.cells
      have HQe := Lib.hid (show NumAt W9.drew w3.heap.size g1 (.slice va (List.length vs) vac) from HQ.out)
      have HRe := Lib.hid (show NumAt W9.drew (w3.heap.size + 1) g2 (.slice ua (List.length us) uac) from HR.out)
      have HQDe := Lib.hid (show Rd W9.drew va vac vs from HQD.out 1)
      have HRDe := Lib.hid (show Rd W9.drew ua uac us from HRD.out 1)
      have HBWe := Lib.hid (show Below w.heap.size w W9.drew from below_drewN HBW.out 1)
      go_region_held3 (fun w' => w'.cell? ⟨w3.heap.size, 0, none⟩ = some (.bool g1) ∧ w'.cell? ⟨w3.heap.size, 1, none⟩ = some (.slice va (List.length vs) vac) ∧ w'.cell? ⟨(w3.heap.size + 1), 0, none⟩ = some (.bool g2) ∧ w'.cell? ⟨(w3.heap.size + 1), 1, none⟩ = some (.slice ua (List.length us) uac))
        (go_keep)
        (first
          | (go_at_call 115; (with_reducible refine (rWrite_any g1 _ va vac _ vs rfl HQDe.out HZ1.out HL1.out).mono ?_); rintro e V1 ⟨rfl, hV⟩; have HQ1 := Lib.hid (HQe.out.below hV HQe.out.lt); have HR1 := Lib.hid (HRe.out.below hV HRe.out.lt); obtain ⟨s0, s1, _, _⟩ := HQ1.out.cells; obtain ⟨t0, t1, _, _⟩ := HR1.out.cells; have HRD1 := Lib.hid (HRDe.out.below hV); have HBV := Lib.hid (HBWe.out.trans (hV.mono HBWe.out.size)); clear hV)
          | (go_at_call 115; (with_reducible refine (rWrite_any g2 _ ua uac _ us rfl HRD1.out HZ2.out HL2.out).mono ?_); rintro e V2 ⟨rfl, hV⟩; obtain ⟨s0', s1', _, _⟩ := (HQ1.out.below hV HQ1.out.lt).cells; obtain ⟨t0', t1', _, _⟩ := (HR1.out.below hV HR1.out.lt).cells; have HBV2 := Lib.hid (HBV.out.trans (hV.mono HBV.out.size)); clear hV))
      go_wp2_with fail
      go_ret3
      exact ⟨by rw [HV1.out, HV2.out]; rfl, HBV2.out⟩
    · have hvv := div_vals HVA.out HVB.out hx hr0 hlt (by
        by_cases h : na = nb
        · exact .inl h
        · right
          have h1 : (na == nb) = false := by simpa using h
          have h2 : rs = [] := by
            apply List.eq_nil_of_length_eq_zero
            by_cases h3 : 0 < rs.length
            · exact absurd ⟨h3, h1⟩ hcor
            · omega
          rw [h2]; rfl)
      have HQD := Lib.hid (fun q => hqs4.drewN q)
      have HRD := Lib.hid (fun q => hrs4.drewN q)
      have HZ1 := Lib.hid hqc.1
      have HZ2 := Lib.hid hrc.1
      have HL1 := Lib.hid (show qs.length ≤ 1000 by omega)
      have HL2 := Lib.hid (show rs.length ≤ 1000 by omega)
      have HV1 := Lib.hid (show sg sx (Num.gval qs) = Int.fdiv (vS a) (vS b) by rw [hsx]; exact hvv.1)
      have HV2 := Lib.hid hvv.2
      have hways : (¬ 0 < rs.length) ∨ (0 < rs.length ∧ (na == nb) = true) := by
        by_cases h3 : 0 < rs.length
        · refine .inr ⟨h3, ?_⟩
          by_cases h4 : (na == nb) = true
          · exact h4
          · exact absurd ⟨h3, by simpa using h4⟩ hcor
        · exact .inl h3
      clear hvv hqs4 hrs4 hsx hx hlt hcor
      rcases hways with hd1 | ⟨hd1, hd2⟩
      all_goals
        go_wp2_with fail
        obtain ⟨q0, q1, _, _⟩ := HQ.out.cells
        obtain ⟨r0, r1, _, _⟩ := HR.out.cells
        have HQe := Lib.hid (show NumAt W4.drew w3.heap.size sx (.slice qa (List.length qs) qcap) from HQ.out)
        have HRe := Lib.hid (show NumAt W4.drew (w3.heap.size + 1) na (.slice ra (List.length rs) rcap) from HR.out)
        have HQDe := Lib.hid (show Rd W4.drew qa qcap qs from HQD.out 1)
        have HRDe := Lib.hid (show Rd W4.drew ra rcap rs from HRD.out 1)
        have HBWe := Lib.hid (show Below w.heap.size w W4.drew from below_drewN HBW.out 1)
        go_region_held3 (fun w' => w'.cell? ⟨w3.heap.size, 0, none⟩ = some (.bool sx) ∧ w'.cell? ⟨w3.heap.size, 1, none⟩ = some (.slice qa (List.length qs) qcap) ∧ w'.cell? ⟨(w3.heap.size + 1), 0, none⟩ = some (.bool na) ∧ w'.cell? ⟨(w3.heap.size + 1), 1, none⟩ = some (.slice ra (List.length rs) rcap))
          (go_keep)
          (first
            | (go_at_call 115; (with_reducible refine (rWrite_any sx _ qa qcap _ qs rfl HQDe.out HZ1.out HL1.out).mono ?_); rintro e V1 ⟨rfl, hV⟩; have HQ1 := Lib.hid (HQe.out.below hV HQe.out.lt); have HR1 := Lib.hid (HRe.out.below hV HRe.out.lt); obtain ⟨s0, s1, _, _⟩ := HQ1.out.cells; obtain ⟨t0, t1, _, _⟩ := HR1.out.cells; have HRD1 := Lib.hid (HRDe.out.below hV); have HBV := Lib.hid (HBWe.out.trans (hV.mono HBWe.out.size)); clear hV)
            | (go_at_call 115; (with_reducible refine (rWrite_any na _ ra rcap _ rs rfl HRD1.out HZ2.out HL2.out).mono ?_); rintro e V2 ⟨rfl, hV⟩; obtain ⟨s0', s1', _, _⟩ := (HQ1.out.below hV HQ1.out.lt).cells; obtain ⟨t0', t1', _, _⟩ := (HR1.out.below hV HR1.out.lt).cells; have HBV2 := Lib.hid (HBV.out.trans (hV.mono HBV.out.size)); clear hV))
        go_wp2_with fail
        go_ret3
        exact ⟨by rw [HV1.out, HV2.out]; rfl, HBV2.out⟩
  · rw [← hsx]
    obtain ⟨W4, hW4⟩ : ∃ W4, W4 = ((w3.alloc (.cells #[.bool na, .slice ra rs.length rcap] 138)).alloc (.cells #[.bool sx, .slice qa qs.length qcap] 138)).drew := ⟨_, rfl⟩
    have hR4 : NumAt W4 w3.heap.size na (.slice ra rs.length rcap) := by rw [hW4]; exact (NumAt.made w3 na (.slice ra rs.length rcap)).alloc _
    have hQ4 : NumAt W4 (w3.heap.size + 1) sx (.slice qa qs.length qcap) := by
      rw [hW4]
      have h := NumAt.made (w3.alloc (.cells #[.bool na, .slice ra rs.length rcap] 138)) sx (.slice qa qs.length qcap)
      have h2 : NumAt ((w3.alloc (.cells #[.bool na, .slice ra rs.length rcap] 138)).alloc (.cells #[.bool sx, .slice qa qs.length qcap] 138)) (w3.heap.size + 1) sx (.slice qa qs.length qcap) := by simpa using h
      exact h2
    have hB34 : Below w3.heap.size w3 W4 := by rw [hW4]; exact (((Below.refl w3.heap.size w3).alloc (Nat.le_refl _) _).alloc (by simp) _).drew
    have hNb4 := hNb3.below hB34 hNb3.lt
    have hNa4 := hNa3.below hB34 hNa3.lt
    have hqs4 := hqs.below hB34
    have hrs4 := hrs.below hB34
    have hsz4 : w3.heap.size + 2 ≤ W4.heap.size := by rw [hW4]; simp
    have HQ := Lib.hid hQ4
    have HR := Lib.hid hR4
    have HBW := Lib.hid (HBW3.out.trans (hB34.mono HBW3.out.size))
    have HN4 := Lib.hid hNb4
    have HB34 := Lib.hid hB34
    obtain ⟨x0, x1, _, _⟩ := hNa4.cells
    obtain ⟨y0, y1, _, _⟩ := hNb4.cells
    rw [← hW4]
    clear hW4 hQ4 hR4 hNb4 hNa4 hB34 a0 a1 b0 b1
    by_cases hcor : 0 < rs.length ∧ (na == nb) = false
    · obtain ⟨hrl0, hbb⟩ := hcor
      have hne : na ≠ nb := by simpa using hbb
      have hrpos := Num.gval_pos hrc (by rintro rfl; simp at hrl0)
      have hvv := div_fixed HVA.out HVB.out hx hrpos hlt hne
      have HVV := Lib.hid hvv
      have hsx2 : sx = true := by rw [hsx, hbb]; rfl
      subst hsx2
      clear hvv hne hsx hx hlt
      obtain ⟨q0, q1, qf0, qf1⟩ := HQ.out.cells
      obtain ⟨r0, r1, rf0, rf1⟩ := HR.out.cells
      go_wp2_with fail
      obtain ⟨W5, hW5⟩ : ∃ W5, W5 = W4.alloc (.cells #[.int .i64 1] 3) := ⟨_, rfl⟩
      have hB45 : Below W4.heap.size W4 W5 := by rw [hW5]; exact (Below.refl _ _).alloc (Nat.le_refl _) _
      have hone : Rd W5 (some ⟨W4.heap.size, 0, none⟩) 1 [1] := by rw [hW5]; exact ⟨by simp, fun _ => ⟨_, 0, rfl, (one_sl W4 1).sr (by simp)⟩⟩
      rw [← hW5]
      clear hW5
      refine (rAdd_num true true W5 qa (some ⟨W4.heap.size, 0, none⟩) qcap 1 _ 1 qs [1] rfl rfl (hqs4.below hB45) hone hqc ⟨Num.Norm.one (by decide) (by decide), by simp⟩ (by simp; omega)).mono ?_
      rintro e W6 ⟨g1, va, vac, vs, rfl, hvc, hvv1, hvrd, hvl, hB56, hvfr⟩
      have hB46 := hB45.trans (hB56.mono hB45.size)
      have hB36 := HB34.out.trans (hB46.mono HB34.out.size)
      have HQ6 := Lib.hid (HQ.out.below hB46 HQ.out.lt)
      have HR6 := Lib.hid (HR.out.below hB46 HR.out.lt)
      have HN6 := Lib.hid (HN4.out.below hB46 HN4.out.lt)
      have hvfar : ∀ b o, va = some ⟨b, o, none⟩ → w3.heap.size + 2 ≤ b := fun b o e => Nat.le_trans hsz4 (Nat.le_trans hB45.size (hvfr b o e))
      rw [Num.gval_one] at hvv1
      have HVV1 := Lib.hid hvv1
      obtain ⟨W7, hW7⟩ : ∃ W7, W7 = (W6.setCell ⟨(w3.heap.size + 1), 0, none⟩ (.bool g1)).setCell ⟨(w3.heap.size + 1), 1, none⟩ (.slice va vs.length vac) := ⟨_, rfl⟩
      have hB37 : Below w3.heap.size w3 W7 := by rw [hW7]; exact (hB36.setCell (p := ⟨(w3.heap.size + 1), 0, none⟩) (by simp) _).setCell (p := ⟨(w3.heap.size + 1), 1, none⟩) (by simp) _
      have hQ7 : NumAt W7 (w3.heap.size + 1) g1 (.slice va vs.length vac) := by rw [hW7]; exact (HQ6.out.set0 g1).set _
      have hR7 : NumAt W7 w3.heap.size na (.slice ra rs.length rcap) := by rw [hW7]; exact (HR6.out.setOther (a := ⟨(w3.heap.size + 1), 0, none⟩) (by simp) _).setOther (a := ⟨(w3.heap.size + 1), 1, none⟩) (by simp) _
      have hN7 := hNb3.below hB37 hNb3.lt
      have hrs7 := hrs.below hB37
      have hry7 := hry3.below hB37
      have hv7 : Rd W7 va vac vs := by rw [hW7]; exact (hvrd.setOther (a := ⟨(w3.heap.size + 1), 0, none⟩) (fun b o e => by have := hvfar b o e; simp; omega) _).setOther (a := ⟨(w3.heap.size + 1), 1, none⟩) (fun b o e => by have := hvfar b o e; simp; omega) _
      have hB7 : Below w.heap.size w W7 := HBW3.out.trans (hB37.mono HBW3.out.size)
      have HB37 := Lib.hid hB37
      have HQ7 := Lib.hid hQ7
      have HR7 := Lib.hid hR7
      have HB7 := Lib.hid hB7
      have HV7 := Lib.hid hv7
      have HFAR := Lib.hid hvfar
      obtain ⟨s0, s1, sf0, sf1⟩ := HQ6.out.cells
      obtain ⟨u0, u1, uf0, uf1⟩ := HR6.out.cells
      obtain ⟨z0, z1, _, _⟩ := HN6.out.cells
      clear q0 q1 qf0 qf1 r0 r1 rf0 rf1 hB45 hone hB56 hvfr hvv1 hB46 hB36 hqs4 hrs4 y0 y1 x0 x1 hB37 hQ7 hR7 hN7 hv7 hB7 hvfar hvrd
      go_wp2_with fail
      rw [← hW7]
      clear hW7 s0 s1 sf0 sf1 u0 u1 uf0 uf1 z0 z1
      refine (rAdd_num na nb W7 ra ya rcap cy _ _ rs (gS b) rfl rfl hrs7 hry7 hrc (gS_can b) (by omega)).mono ?_
      rintro e W8 ⟨g2, ua, uac, us, rfl, huc, huv, hurd, hul, hB78, hufr⟩
      have HQ8 := Lib.hid (HQ7.out.below hB78 HQ7.out.lt)
      have HR8 := Lib.hid (HR7.out.below hB78 HR7.out.lt)
      have HUV := Lib.hid huv
      have hufar : ∀ b o, ua = some ⟨b, o, none⟩ → w3.heap.size + 2 ≤ b := fun b o e => by
        have h1 := hufr b o e
        have h2 := HQ7.out.lt
        have h3 := HR7.out.lt
        omega
      obtain ⟨W9, hW9⟩ : ∃ W9, W9 = (W8.setCell ⟨w3.heap.size, 0, none⟩ (.bool g2)).setCell ⟨w3.heap.size, 1, none⟩ (.slice ua us.length uac) := ⟨_, rfl⟩
      have hQ9 : NumAt W9 (w3.heap.size + 1) g1 (.slice va vs.length vac) := by rw [hW9]; exact (HQ8.out.setOther (a := ⟨w3.heap.size, 0, none⟩) (by simp) _).setOther (a := ⟨w3.heap.size, 1, none⟩) (by simp) _
      have hR9 : NumAt W9 w3.heap.size g2 (.slice ua us.length uac) := by rw [hW9]; exact (HR8.out.set0 g2).set _
      have hv9 : Rd W9 va vac vs := by rw [hW9]; exact ((HV7.out.below hB78).setOther (a := ⟨w3.heap.size, 0, none⟩) (fun b o e => by have := HFAR.out b o e; simp; omega) _).setOther (a := ⟨w3.heap.size, 1, none⟩) (fun b o e => by have := HFAR.out b o e; simp; omega) _
      have hu9 : Rd W9 ua uac us := by rw [hW9]; exact (hurd.setOther (a := ⟨w3.heap.size, 0, none⟩) (fun b o e => by have := hufar b o e; simp; omega) _).setOther (a := ⟨w3.heap.size, 1, none⟩) (fun b o e => by have := hufar b o e; simp; omega) _
      have hB39 : Below w3.heap.size w3 W9 := by rw [hW9]; exact ((HB37.out.trans (hB78.mono HB37.out.size)).setCell (p := ⟨w3.heap.size, 0, none⟩) (by simp) _).setCell (p := ⟨w3.heap.size, 1, none⟩) (by simp) _
      obtain ⟨s0, s1, sf0, sf1⟩ := HQ8.out.cells
      obtain ⟨u0, u1, uf0, uf1⟩ := HR8.out.cells
      replace HQ := Lib.hid hQ9
      replace HR := Lib.hid hR9
      replace HBW := Lib.hid (HBW3.out.trans (hB39.mono HBW3.out.size))
      have HQD := Lib.hid (fun q => hv9.drewN q)
      have HRD := Lib.hid (fun q => hu9.drewN q)
      have HZ1 := Lib.hid hvc.1
      have HZ2 := Lib.hid huc.1
      have HL1 := Lib.hid (show vs.length ≤ 1000 by omega)
      have HL2 := Lib.hid (show us.length ≤ 1000 by omega)
      have HV1 := Lib.hid (HVV1.out.trans HVV.out.1)
      have HV2 := Lib.hid (HUV.out.trans HVV.out.2)
      clear huv hufar hQ9 hR9 hv9 hu9 hB39 hurd hB78 hufr hrs7 hry7
      go_wp2_with fail
      rw [← hW9]
      clear hW9 s0 s1 sf0 sf1 u0 u1 uf0 uf1
      obtain ⟨q0, q1, _, _⟩ := HQ.out.cells
      obtain ⟨r0, r1, _, _⟩ := HR.out.cells
      have HQe := Lib.hid (show NumAt W9.drew (w3.heap.size + 1) g1 (.slice va (List.length vs) vac) from HQ.out)
      have HRe := Lib.hid (show NumAt W9.drew w3.heap.size g2 (.slice ua (List.length us) uac) from HR.out)
      have HQDe := Lib.hid (show Rd W9.drew va vac vs from HQD.out 1)
      have HRDe := Lib.hid (show Rd W9.drew ua uac us from HRD.out 1)
      have HBWe := Lib.hid (show Below w.heap.size w W9.drew from below_drewN HBW.out 1)
      go_region_held3 (fun w' => w'.cell? ⟨(w3.heap.size + 1), 0, none⟩ = some (.bool g1) ∧ w'.cell? ⟨(w3.heap.size + 1), 1, none⟩ = some (.slice va (List.length vs) vac) ∧ w'.cell? ⟨w3.heap.size, 0, none⟩ = some (.bool g2) ∧ w'.cell? ⟨w3.heap.size, 1, none⟩ = some (.slice ua (List.length us) uac))
        (go_keep)
        (first
          | (go_at_call 115; (with_reducible refine (rWrite_any g1 _ va vac _ vs rfl HQDe.out HZ1.out HL1.out).mono ?_); rintro e V1 ⟨rfl, hV⟩; have HQ1 := Lib.hid (HQe.out.below hV HQe.out.lt); have HR1 := Lib.hid (HRe.out.below hV HRe.out.lt); obtain ⟨s0, s1, _, _⟩ := HQ1.out.cells; obtain ⟨t0, t1, _, _⟩ := HR1.out.cells; have HRD1 := Lib.hid (HRDe.out.below hV); have HBV := Lib.hid (HBWe.out.trans (hV.mono HBWe.out.size)); clear hV)
          | (go_at_call 115; (with_reducible refine (rWrite_any g2 _ ua uac _ us rfl HRD1.out HZ2.out HL2.out).mono ?_); rintro e V2 ⟨rfl, hV⟩; obtain ⟨s0', s1', _, _⟩ := (HQ1.out.below hV HQ1.out.lt).cells; obtain ⟨t0', t1', _, _⟩ := (HR1.out.below hV HR1.out.lt).cells; have HBV2 := Lib.hid (HBV.out.trans (hV.mono HBV.out.size)); clear hV))
      go_wp2_with fail
      go_ret3
      exact ⟨by rw [HV1.out, HV2.out]; rfl, HBV2.out⟩
    · have hvv := div_vals HVA.out HVB.out hx hr0 hlt (by
        by_cases h : na = nb
        · exact .inl h
        · right
          have h1 : (na == nb) = false := by simpa using h
          have h2 : rs = [] := by
            apply List.eq_nil_of_length_eq_zero
            by_cases h3 : 0 < rs.length
            · exact absurd ⟨h3, h1⟩ hcor
            · omega
          rw [h2]; rfl)
      have HQD := Lib.hid (fun q => hqs4.drewN q)
      have HRD := Lib.hid (fun q => hrs4.drewN q)
      have HZ1 := Lib.hid hqc.1
      have HZ2 := Lib.hid hrc.1
      have HL1 := Lib.hid (show qs.length ≤ 1000 by omega)
      have HL2 := Lib.hid (show rs.length ≤ 1000 by omega)
      have HV1 := Lib.hid (show sg sx (Num.gval qs) = Int.fdiv (vS a) (vS b) by rw [hsx]; exact hvv.1)
      have HV2 := Lib.hid hvv.2
      have hways : (¬ 0 < rs.length) ∨ (0 < rs.length ∧ (na == nb) = true) := by
        by_cases h3 : 0 < rs.length
        · refine .inr ⟨h3, ?_⟩
          by_cases h4 : (na == nb) = true
          · exact h4
          · exact absurd ⟨h3, by simpa using h4⟩ hcor
        · exact .inl h3
      clear hvv hqs4 hrs4 hsx hx hlt hcor
      rcases hways with hd1 | ⟨hd1, hd2⟩
      all_goals
        go_wp2_with fail
        obtain ⟨q0, q1, _, _⟩ := HQ.out.cells
        obtain ⟨r0, r1, _, _⟩ := HR.out.cells
        have HQe := Lib.hid (show NumAt W4.drew (w3.heap.size + 1) sx (.slice qa (List.length qs) qcap) from HQ.out)
        have HRe := Lib.hid (show NumAt W4.drew w3.heap.size na (.slice ra (List.length rs) rcap) from HR.out)
        have HQDe := Lib.hid (show Rd W4.drew qa qcap qs from HQD.out 1)
        have HRDe := Lib.hid (show Rd W4.drew ra rcap rs from HRD.out 1)
        have HBWe := Lib.hid (show Below w.heap.size w W4.drew from below_drewN HBW.out 1)
        go_region_held3 (fun w' => w'.cell? ⟨(w3.heap.size + 1), 0, none⟩ = some (.bool sx) ∧ w'.cell? ⟨(w3.heap.size + 1), 1, none⟩ = some (.slice qa (List.length qs) qcap) ∧ w'.cell? ⟨w3.heap.size, 0, none⟩ = some (.bool na) ∧ w'.cell? ⟨w3.heap.size, 1, none⟩ = some (.slice ra (List.length rs) rcap))
          (go_keep)
          (first
            | (go_at_call 115; (with_reducible refine (rWrite_any sx _ qa qcap _ qs rfl HQDe.out HZ1.out HL1.out).mono ?_); rintro e V1 ⟨rfl, hV⟩; have HQ1 := Lib.hid (HQe.out.below hV HQe.out.lt); have HR1 := Lib.hid (HRe.out.below hV HRe.out.lt); obtain ⟨s0, s1, _, _⟩ := HQ1.out.cells; obtain ⟨t0, t1, _, _⟩ := HR1.out.cells; have HRD1 := Lib.hid (HRDe.out.below hV); have HBV := Lib.hid (HBWe.out.trans (hV.mono HBWe.out.size)); clear hV)
            | (go_at_call 115; (with_reducible refine (rWrite_any na _ ra rcap _ rs rfl HRD1.out HZ2.out HL2.out).mono ?_); rintro e V2 ⟨rfl, hV⟩; obtain ⟨s0', s1', _, _⟩ := (HQ1.out.below hV HQ1.out.lt).cells; obtain ⟨t0', t1', _, _⟩ := (HR1.out.below hV HR1.out.lt).cells; have HBV2 := Lib.hid (HBV.out.trans (hV.mono HBV.out.size)); clear hV))
        go_wp2_with fail
        go_ret3
        exact ⟨by rw [HV1.out, HV2.out]; rfl, HBV2.out⟩

set_option maxRecDepth 100000 in
set_option maxHeartbeats 8000000 in
theorem rDiv_long1 (a b : ByteArray) (w : World) (ha : a.size ≤ 1000) (hb : b.size ≤ 1000) (h0 : vS b ≠ 0) (m p : Int)  (hsa : shortV a = .tuple #[.int .i64 m, .bool true]) (hsb : shortV b = .tuple #[.int .i64 p, .bool false])  :
    Calls Tryz.prog 175 #[.string a, .string b] w (DivPost w (vS a) (vS b)) := by
  have HSA := Lib.hid hsa
  have HSB := Lib.hid hsb
  clear hsa hsb
  have hla := gS_length2 a ha
  have hlb := gS_length2 b hb
  have hva := vS_sg a
  have hvb := vS_sg b
  have hyl : (gS b).length ≠ 0 := fun h => h0 (grps_nil.1 h)
  have hyn : gS b ≠ [] := by intro h; rw [h] at hyl; exact hyl rfl
  obtain ⟨na, hna⟩ : ∃ na, na = Num.sneg a.data.toList := ⟨_, rfl⟩
  obtain ⟨nb, hnb⟩ : ∃ nb, nb = Num.sneg b.data.toList := ⟨_, rfl⟩
  rw [← hna] at hva
  rw [← hnb] at hvb
  have HVA := Lib.hid hva
  have HVB := Lib.hid hvb
  have HNA := Lib.hid hna
  have HNB := Lib.hid hnb
  have HYN := Lib.hid hyn
  obtain ⟨sx, hsx⟩ : ∃ sx, sx = !(na == nb) := ⟨_, rfl⟩
  have HSX := Lib.hid hsx
  clear hva hvb hyl hyn h0 hna hnb hsx
  go_enter Tryz.func175, Tryz.ntmps175
  go_wp2_with fail
  refine (short_any a w (by omega)).mono ?_
  rintro e _ ⟨rfl, rfl⟩
  rw [HSA.out]
  go_wp2_with fail
  refine (short_any b w (by omega)).mono ?_
  rintro e _ ⟨rfl, rfl⟩
  rw [HSB.out]
  go_wp2_with fail
  refine (rRead_any a w ha).mono ?_
  rintro e w1 ⟨xa, cx, rfl, hrx, hB1⟩
  rw [← HNA.out]
  go_wp2_with fail
  refine (rRead_any b w1 hb).mono ?_
  rintro e w2 ⟨ya, cy, rfl, hry, hB2⟩
  rw [← HNB.out]
  have hrx2 := hrx.below hB2
  have hB : Below w.heap.size w w2 := hB1.trans (hB2.mono hB1.size)
  clear hB1 hB2 hrx
  obtain ⟨W0, hW0⟩ : ∃ W0, W0 = (w2.alloc (.cells #[.bool na, .slice xa (gS a).length cx] 138)).alloc (.cells #[.bool nb, .slice ya (gS b).length cy] 138) := ⟨_, rfl⟩
  have hB0 : Below w2.heap.size w2 W0 := by rw [hW0]; exact ((Below.refl _ _).alloc (Nat.le_refl _) _).alloc (by simp) _
  have hNa : NumAt W0 w2.heap.size na (.slice xa (gS a).length cx) := by rw [hW0]; exact (NumAt.made w2 na _).alloc _
  have hNb : NumAt W0 (w2.heap.size + 1) nb (.slice ya (gS b).length cy) := by
    rw [hW0]
    have := NumAt.made (w2.alloc (.cells #[.bool na, .slice xa (gS a).length cx] 138)) nb (.slice ya (gS b).length cy)
    simpa using this
  have hrx0 := hrx2.below hB0
  have hry0 := hry.below hB0
  have HBB := Lib.hid (hB.trans (hB0.mono hB.size))
  clear hrx2 hry hB hB0
  go_wp2_with fail
  rw [← hW0]
  clear hW0
  refine (rDivide_any W0 xa ya cx cy _ _ (gS a) (gS b) rfl rfl hrx0 hry0 (gS_can a) (gS_can b) HYN.out (by omega)).mono ?_
  rintro e w3 ⟨qs, rs, qa, qcap, ra, rcap, rfl, hqc, hrc, hx, hlt, hqs, hrs, hql, hrl, hB3⟩
  have hNa3 := hNa.below hB3 hNa.lt
  have hNb3 := hNb.below hB3 hNb.lt
  have hry3 := hry0.below hB3
  obtain ⟨a0, a1, _, _⟩ := hNa3.cells
  obtain ⟨b0, b1, _, _⟩ := hNb3.cells
  have HBW3 := Lib.hid (HBB.out.trans (hB3.mono HBB.out.size))
  have hr0 := Num.gval_nonneg hrc.1
  have hl1 := hNb3.lt
  have k1 := World.new_ne w3 _ a0
  have k2 := World.new_ne w3 _ b0
  have n1 : w2.heap.size ≠ w3.heap.size := by omega
  have n2 : w2.heap.size ≠ w3.heap.size + 1 := by omega
  have n3 : w2.heap.size + 1 ≠ w3.heap.size := by omega
  have n1' : w3.heap.size ≠ w2.heap.size := by omega
  have n2' : w3.heap.size + 1 ≠ w2.heap.size := by omega
  have n3' : w3.heap.size ≠ w2.heap.size + 1 := by omega
  go_wp2_with fail
  clear hNa hNb hrx0 hry0 hB3
  go_region_held3 (fun w' => w'.cell? ⟨w2.heap.size, 0, none⟩ = some (.bool na) ∧ w'.cell? ⟨w2.heap.size + 1, 0, none⟩ = some (.bool nb)) (go_keep) (fail)
  all_goals have hsx := HSX.out
  · rw [← hsx]
    obtain ⟨W4, hW4⟩ : ∃ W4, W4 = ((w3.alloc (.cells #[.bool sx, .slice qa qs.length qcap] 138)).alloc (.cells #[.bool na, .slice ra rs.length rcap] 138)).drew := ⟨_, rfl⟩
    have hQ4 : NumAt W4 w3.heap.size sx (.slice qa qs.length qcap) := by rw [hW4]; exact (NumAt.made w3 sx (.slice qa qs.length qcap)).alloc _
    have hR4 : NumAt W4 (w3.heap.size + 1) na (.slice ra rs.length rcap) := by
      rw [hW4]
      have h := NumAt.made (w3.alloc (.cells #[.bool sx, .slice qa qs.length qcap] 138)) na (.slice ra rs.length rcap)
      have h2 : NumAt ((w3.alloc (.cells #[.bool sx, .slice qa qs.length qcap] 138)).alloc (.cells #[.bool na, .slice ra rs.length rcap] 138)) (w3.heap.size + 1) na (.slice ra rs.length rcap) := by simpa using h
      exact h2
    have hB34 : Below w3.heap.size w3 W4 := by rw [hW4]; exact (((Below.refl w3.heap.size w3).alloc (Nat.le_refl _) _).alloc (by simp) _).drew
    have hNb4 := hNb3.below hB34 hNb3.lt
    have hNa4 := hNa3.below hB34 hNa3.lt
    have hqs4 := hqs.below hB34
    have hrs4 := hrs.below hB34
    have hsz4 : w3.heap.size + 2 ≤ W4.heap.size := by rw [hW4]; simp
    have HQ := Lib.hid hQ4
    have HR := Lib.hid hR4
    have HBW := Lib.hid (HBW3.out.trans (hB34.mono HBW3.out.size))
    have HN4 := Lib.hid hNb4
    have HB34 := Lib.hid hB34
    obtain ⟨x0, x1, _, _⟩ := hNa4.cells
    obtain ⟨y0, y1, _, _⟩ := hNb4.cells
    rw [← hW4]
    clear hW4 hQ4 hR4 hNb4 hNa4 hB34 a0 a1 b0 b1
    by_cases hcor : 0 < rs.length ∧ (na == nb) = false
    · obtain ⟨hrl0, hbb⟩ := hcor
      have hne : na ≠ nb := by simpa using hbb
      have hrpos := Num.gval_pos hrc (by rintro rfl; simp at hrl0)
      have hvv := div_fixed HVA.out HVB.out hx hrpos hlt hne
      have HVV := Lib.hid hvv
      have hsx2 : sx = true := by rw [hsx, hbb]; rfl
      subst hsx2
      clear hvv hne hsx hx hlt
      obtain ⟨q0, q1, qf0, qf1⟩ := HQ.out.cells
      obtain ⟨r0, r1, rf0, rf1⟩ := HR.out.cells
      go_wp2_with fail
      obtain ⟨W5, hW5⟩ : ∃ W5, W5 = W4.alloc (.cells #[.int .i64 1] 3) := ⟨_, rfl⟩
      have hB45 : Below W4.heap.size W4 W5 := by rw [hW5]; exact (Below.refl _ _).alloc (Nat.le_refl _) _
      have hone : Rd W5 (some ⟨W4.heap.size, 0, none⟩) 1 [1] := by rw [hW5]; exact ⟨by simp, fun _ => ⟨_, 0, rfl, (one_sl W4 1).sr (by simp)⟩⟩
      rw [← hW5]
      clear hW5
      refine (rAdd_num true true W5 qa (some ⟨W4.heap.size, 0, none⟩) qcap 1 _ 1 qs [1] rfl rfl (hqs4.below hB45) hone hqc ⟨Num.Norm.one (by decide) (by decide), by simp⟩ (by simp; omega)).mono ?_
      rintro e W6 ⟨g1, va, vac, vs, rfl, hvc, hvv1, hvrd, hvl, hB56, hvfr⟩
      have hB46 := hB45.trans (hB56.mono hB45.size)
      have hB36 := HB34.out.trans (hB46.mono HB34.out.size)
      have HQ6 := Lib.hid (HQ.out.below hB46 HQ.out.lt)
      have HR6 := Lib.hid (HR.out.below hB46 HR.out.lt)
      have HN6 := Lib.hid (HN4.out.below hB46 HN4.out.lt)
      have hvfar : ∀ b o, va = some ⟨b, o, none⟩ → w3.heap.size + 2 ≤ b := fun b o e => Nat.le_trans hsz4 (Nat.le_trans hB45.size (hvfr b o e))
      rw [Num.gval_one] at hvv1
      have HVV1 := Lib.hid hvv1
      obtain ⟨W7, hW7⟩ : ∃ W7, W7 = (W6.setCell ⟨w3.heap.size, 0, none⟩ (.bool g1)).setCell ⟨w3.heap.size, 1, none⟩ (.slice va vs.length vac) := ⟨_, rfl⟩
      have hB37 : Below w3.heap.size w3 W7 := by rw [hW7]; exact (hB36.setCell (p := ⟨w3.heap.size, 0, none⟩) (by simp) _).setCell (p := ⟨w3.heap.size, 1, none⟩) (by simp) _
      have hQ7 : NumAt W7 w3.heap.size g1 (.slice va vs.length vac) := by rw [hW7]; exact (HQ6.out.set0 g1).set _
      have hR7 : NumAt W7 (w3.heap.size + 1) na (.slice ra rs.length rcap) := by rw [hW7]; exact (HR6.out.setOther (a := ⟨w3.heap.size, 0, none⟩) (by simp) _).setOther (a := ⟨w3.heap.size, 1, none⟩) (by simp) _
      have hN7 := hNb3.below hB37 hNb3.lt
      have hrs7 := hrs.below hB37
      have hry7 := hry3.below hB37
      have hv7 : Rd W7 va vac vs := by rw [hW7]; exact (hvrd.setOther (a := ⟨w3.heap.size, 0, none⟩) (fun b o e => by have := hvfar b o e; simp; omega) _).setOther (a := ⟨w3.heap.size, 1, none⟩) (fun b o e => by have := hvfar b o e; simp; omega) _
      have hB7 : Below w.heap.size w W7 := HBW3.out.trans (hB37.mono HBW3.out.size)
      have HB37 := Lib.hid hB37
      have HQ7 := Lib.hid hQ7
      have HR7 := Lib.hid hR7
      have HB7 := Lib.hid hB7
      have HV7 := Lib.hid hv7
      have HFAR := Lib.hid hvfar
      obtain ⟨s0, s1, sf0, sf1⟩ := HQ6.out.cells
      obtain ⟨u0, u1, uf0, uf1⟩ := HR6.out.cells
      obtain ⟨z0, z1, _, _⟩ := HN6.out.cells
      clear q0 q1 qf0 qf1 r0 r1 rf0 rf1 hB45 hone hB56 hvfr hvv1 hB46 hB36 hqs4 hrs4 y0 y1 x0 x1 hB37 hQ7 hR7 hN7 hv7 hB7 hvfar hvrd
      go_wp2_with fail
      rw [← hW7]
      clear hW7 s0 s1 sf0 sf1 u0 u1 uf0 uf1 z0 z1
      refine (rAdd_num na nb W7 ra ya rcap cy _ _ rs (gS b) rfl rfl hrs7 hry7 hrc (gS_can b) (by omega)).mono ?_
      rintro e W8 ⟨g2, ua, uac, us, rfl, huc, huv, hurd, hul, hB78, hufr⟩
      have HQ8 := Lib.hid (HQ7.out.below hB78 HQ7.out.lt)
      have HR8 := Lib.hid (HR7.out.below hB78 HR7.out.lt)
      have HUV := Lib.hid huv
      have hufar : ∀ b o, ua = some ⟨b, o, none⟩ → w3.heap.size + 2 ≤ b := fun b o e => by
        have h1 := hufr b o e
        have h2 := HQ7.out.lt
        have h3 := HR7.out.lt
        omega
      obtain ⟨W9, hW9⟩ : ∃ W9, W9 = (W8.setCell ⟨(w3.heap.size + 1), 0, none⟩ (.bool g2)).setCell ⟨(w3.heap.size + 1), 1, none⟩ (.slice ua us.length uac) := ⟨_, rfl⟩
      have hQ9 : NumAt W9 w3.heap.size g1 (.slice va vs.length vac) := by rw [hW9]; exact (HQ8.out.setOther (a := ⟨(w3.heap.size + 1), 0, none⟩) (by simp) _).setOther (a := ⟨(w3.heap.size + 1), 1, none⟩) (by simp) _
      have hR9 : NumAt W9 (w3.heap.size + 1) g2 (.slice ua us.length uac) := by rw [hW9]; exact (HR8.out.set0 g2).set _
      have hv9 : Rd W9 va vac vs := by rw [hW9]; exact ((HV7.out.below hB78).setOther (a := ⟨(w3.heap.size + 1), 0, none⟩) (fun b o e => by have := HFAR.out b o e; simp; omega) _).setOther (a := ⟨(w3.heap.size + 1), 1, none⟩) (fun b o e => by have := HFAR.out b o e; simp; omega) _
      have hu9 : Rd W9 ua uac us := by rw [hW9]; exact (hurd.setOther (a := ⟨(w3.heap.size + 1), 0, none⟩) (fun b o e => by have := hufar b o e; simp; omega) _).setOther (a := ⟨(w3.heap.size + 1), 1, none⟩) (fun b o e => by have := hufar b o e; simp; omega) _
      have hB39 : Below w3.heap.size w3 W9 := by rw [hW9]; exact ((HB37.out.trans (hB78.mono HB37.out.size)).setCell (p := ⟨(w3.heap.size + 1), 0, none⟩) (by simp) _).setCell (p := ⟨(w3.heap.size + 1), 1, none⟩) (by simp) _
      obtain ⟨s0, s1, sf0, sf1⟩ := HQ8.out.cells
      obtain ⟨u0, u1, uf0, uf1⟩ := HR8.out.cells
      replace HQ := Lib.hid hQ9
      replace HR := Lib.hid hR9
      replace HBW := Lib.hid (HBW3.out.trans (hB39.mono HBW3.out.size))
      have HQD := Lib.hid (fun q => hv9.drewN q)
      have HRD := Lib.hid (fun q => hu9.drewN q)
      have HZ1 := Lib.hid hvc.1
      have HZ2 := Lib.hid huc.1
      have HL1 := Lib.hid (show vs.length ≤ 1000 by omega)
      have HL2 := Lib.hid (show us.length ≤ 1000 by omega)
      have HV1 := Lib.hid (HVV1.out.trans HVV.out.1)
      have HV2 := Lib.hid (HUV.out.trans HVV.out.2)
      clear huv hufar hQ9 hR9 hv9 hu9 hB39 hurd hB78 hufr hrs7 hry7
      go_wp2_with fail
      rw [← hW9]
      clear hW9 s0 s1 sf0 sf1 u0 u1 uf0 uf1
      obtain ⟨q0, q1, _, _⟩ := HQ.out.cells
      obtain ⟨r0, r1, _, _⟩ := HR.out.cells
      have HQe := Lib.hid (show NumAt W9.drew w3.heap.size g1 (.slice va (List.length vs) vac) from HQ.out)
      have HRe := Lib.hid (show NumAt W9.drew (w3.heap.size + 1) g2 (.slice ua (List.length us) uac) from HR.out)
      have HQDe := Lib.hid (show Rd W9.drew va vac vs from HQD.out 1)
      have HRDe := Lib.hid (show Rd W9.drew ua uac us from HRD.out 1)
      have HBWe := Lib.hid (show Below w.heap.size w W9.drew from below_drewN HBW.out 1)
      go_region_held3 (fun w' => w'.cell? ⟨w3.heap.size, 0, none⟩ = some (.bool g1) ∧ w'.cell? ⟨w3.heap.size, 1, none⟩ = some (.slice va (List.length vs) vac) ∧ w'.cell? ⟨(w3.heap.size + 1), 0, none⟩ = some (.bool g2) ∧ w'.cell? ⟨(w3.heap.size + 1), 1, none⟩ = some (.slice ua (List.length us) uac))
        (go_keep)
        (first
          | (go_at_call 115; (with_reducible refine (rWrite_any g1 _ va vac _ vs rfl HQDe.out HZ1.out HL1.out).mono ?_); rintro e V1 ⟨rfl, hV⟩; have HQ1 := Lib.hid (HQe.out.below hV HQe.out.lt); have HR1 := Lib.hid (HRe.out.below hV HRe.out.lt); obtain ⟨s0, s1, _, _⟩ := HQ1.out.cells; obtain ⟨t0, t1, _, _⟩ := HR1.out.cells; have HRD1 := Lib.hid (HRDe.out.below hV); have HBV := Lib.hid (HBWe.out.trans (hV.mono HBWe.out.size)); clear hV)
          | (go_at_call 115; (with_reducible refine (rWrite_any g2 _ ua uac _ us rfl HRD1.out HZ2.out HL2.out).mono ?_); rintro e V2 ⟨rfl, hV⟩; obtain ⟨s0', s1', _, _⟩ := (HQ1.out.below hV HQ1.out.lt).cells; obtain ⟨t0', t1', _, _⟩ := (HR1.out.below hV HR1.out.lt).cells; have HBV2 := Lib.hid (HBV.out.trans (hV.mono HBV.out.size)); clear hV))
      go_wp2_with fail
      go_ret3
      exact ⟨by rw [HV1.out, HV2.out]; rfl, HBV2.out⟩
    · have hvv := div_vals HVA.out HVB.out hx hr0 hlt (by
        by_cases h : na = nb
        · exact .inl h
        · right
          have h1 : (na == nb) = false := by simpa using h
          have h2 : rs = [] := by
            apply List.eq_nil_of_length_eq_zero
            by_cases h3 : 0 < rs.length
            · exact absurd ⟨h3, h1⟩ hcor
            · omega
          rw [h2]; rfl)
      have HQD := Lib.hid (fun q => hqs4.drewN q)
      have HRD := Lib.hid (fun q => hrs4.drewN q)
      have HZ1 := Lib.hid hqc.1
      have HZ2 := Lib.hid hrc.1
      have HL1 := Lib.hid (show qs.length ≤ 1000 by omega)
      have HL2 := Lib.hid (show rs.length ≤ 1000 by omega)
      have HV1 := Lib.hid (show sg sx (Num.gval qs) = Int.fdiv (vS a) (vS b) by rw [hsx]; exact hvv.1)
      have HV2 := Lib.hid hvv.2
      have hways : (¬ 0 < rs.length) ∨ (0 < rs.length ∧ (na == nb) = true) := by
        by_cases h3 : 0 < rs.length
        · refine .inr ⟨h3, ?_⟩
          by_cases h4 : (na == nb) = true
          · exact h4
          · exact absurd ⟨h3, by simpa using h4⟩ hcor
        · exact .inl h3
      clear hvv hqs4 hrs4 hsx hx hlt hcor
      rcases hways with hd1 | ⟨hd1, hd2⟩
      all_goals
        go_wp2_with fail
        obtain ⟨q0, q1, _, _⟩ := HQ.out.cells
        obtain ⟨r0, r1, _, _⟩ := HR.out.cells
        have HQe := Lib.hid (show NumAt W4.drew w3.heap.size sx (.slice qa (List.length qs) qcap) from HQ.out)
        have HRe := Lib.hid (show NumAt W4.drew (w3.heap.size + 1) na (.slice ra (List.length rs) rcap) from HR.out)
        have HQDe := Lib.hid (show Rd W4.drew qa qcap qs from HQD.out 1)
        have HRDe := Lib.hid (show Rd W4.drew ra rcap rs from HRD.out 1)
        have HBWe := Lib.hid (show Below w.heap.size w W4.drew from below_drewN HBW.out 1)
        go_region_held3 (fun w' => w'.cell? ⟨w3.heap.size, 0, none⟩ = some (.bool sx) ∧ w'.cell? ⟨w3.heap.size, 1, none⟩ = some (.slice qa (List.length qs) qcap) ∧ w'.cell? ⟨(w3.heap.size + 1), 0, none⟩ = some (.bool na) ∧ w'.cell? ⟨(w3.heap.size + 1), 1, none⟩ = some (.slice ra (List.length rs) rcap))
          (go_keep)
          (first
            | (go_at_call 115; (with_reducible refine (rWrite_any sx _ qa qcap _ qs rfl HQDe.out HZ1.out HL1.out).mono ?_); rintro e V1 ⟨rfl, hV⟩; have HQ1 := Lib.hid (HQe.out.below hV HQe.out.lt); have HR1 := Lib.hid (HRe.out.below hV HRe.out.lt); obtain ⟨s0, s1, _, _⟩ := HQ1.out.cells; obtain ⟨t0, t1, _, _⟩ := HR1.out.cells; have HRD1 := Lib.hid (HRDe.out.below hV); have HBV := Lib.hid (HBWe.out.trans (hV.mono HBWe.out.size)); clear hV)
            | (go_at_call 115; (with_reducible refine (rWrite_any na _ ra rcap _ rs rfl HRD1.out HZ2.out HL2.out).mono ?_); rintro e V2 ⟨rfl, hV⟩; obtain ⟨s0', s1', _, _⟩ := (HQ1.out.below hV HQ1.out.lt).cells; obtain ⟨t0', t1', _, _⟩ := (HR1.out.below hV HR1.out.lt).cells; have HBV2 := Lib.hid (HBV.out.trans (hV.mono HBV.out.size)); clear hV))
        go_wp2_with fail
        go_ret3
        exact ⟨by rw [HV1.out, HV2.out]; rfl, HBV2.out⟩
  · rw [← hsx]
    obtain ⟨W4, hW4⟩ : ∃ W4, W4 = ((w3.alloc (.cells #[.bool na, .slice ra rs.length rcap] 138)).alloc (.cells #[.bool sx, .slice qa qs.length qcap] 138)).drew := ⟨_, rfl⟩
    have hR4 : NumAt W4 w3.heap.size na (.slice ra rs.length rcap) := by rw [hW4]; exact (NumAt.made w3 na (.slice ra rs.length rcap)).alloc _
    have hQ4 : NumAt W4 (w3.heap.size + 1) sx (.slice qa qs.length qcap) := by
      rw [hW4]
      have h := NumAt.made (w3.alloc (.cells #[.bool na, .slice ra rs.length rcap] 138)) sx (.slice qa qs.length qcap)
      have h2 : NumAt ((w3.alloc (.cells #[.bool na, .slice ra rs.length rcap] 138)).alloc (.cells #[.bool sx, .slice qa qs.length qcap] 138)) (w3.heap.size + 1) sx (.slice qa qs.length qcap) := by simpa using h
      exact h2
    have hB34 : Below w3.heap.size w3 W4 := by rw [hW4]; exact (((Below.refl w3.heap.size w3).alloc (Nat.le_refl _) _).alloc (by simp) _).drew
    have hNb4 := hNb3.below hB34 hNb3.lt
    have hNa4 := hNa3.below hB34 hNa3.lt
    have hqs4 := hqs.below hB34
    have hrs4 := hrs.below hB34
    have hsz4 : w3.heap.size + 2 ≤ W4.heap.size := by rw [hW4]; simp
    have HQ := Lib.hid hQ4
    have HR := Lib.hid hR4
    have HBW := Lib.hid (HBW3.out.trans (hB34.mono HBW3.out.size))
    have HN4 := Lib.hid hNb4
    have HB34 := Lib.hid hB34
    obtain ⟨x0, x1, _, _⟩ := hNa4.cells
    obtain ⟨y0, y1, _, _⟩ := hNb4.cells
    rw [← hW4]
    clear hW4 hQ4 hR4 hNb4 hNa4 hB34 a0 a1 b0 b1
    by_cases hcor : 0 < rs.length ∧ (na == nb) = false
    · obtain ⟨hrl0, hbb⟩ := hcor
      have hne : na ≠ nb := by simpa using hbb
      have hrpos := Num.gval_pos hrc (by rintro rfl; simp at hrl0)
      have hvv := div_fixed HVA.out HVB.out hx hrpos hlt hne
      have HVV := Lib.hid hvv
      have hsx2 : sx = true := by rw [hsx, hbb]; rfl
      subst hsx2
      clear hvv hne hsx hx hlt
      obtain ⟨q0, q1, qf0, qf1⟩ := HQ.out.cells
      obtain ⟨r0, r1, rf0, rf1⟩ := HR.out.cells
      go_wp2_with fail
      obtain ⟨W5, hW5⟩ : ∃ W5, W5 = W4.alloc (.cells #[.int .i64 1] 3) := ⟨_, rfl⟩
      have hB45 : Below W4.heap.size W4 W5 := by rw [hW5]; exact (Below.refl _ _).alloc (Nat.le_refl _) _
      have hone : Rd W5 (some ⟨W4.heap.size, 0, none⟩) 1 [1] := by rw [hW5]; exact ⟨by simp, fun _ => ⟨_, 0, rfl, (one_sl W4 1).sr (by simp)⟩⟩
      rw [← hW5]
      clear hW5
      refine (rAdd_num true true W5 qa (some ⟨W4.heap.size, 0, none⟩) qcap 1 _ 1 qs [1] rfl rfl (hqs4.below hB45) hone hqc ⟨Num.Norm.one (by decide) (by decide), by simp⟩ (by simp; omega)).mono ?_
      rintro e W6 ⟨g1, va, vac, vs, rfl, hvc, hvv1, hvrd, hvl, hB56, hvfr⟩
      have hB46 := hB45.trans (hB56.mono hB45.size)
      have hB36 := HB34.out.trans (hB46.mono HB34.out.size)
      have HQ6 := Lib.hid (HQ.out.below hB46 HQ.out.lt)
      have HR6 := Lib.hid (HR.out.below hB46 HR.out.lt)
      have HN6 := Lib.hid (HN4.out.below hB46 HN4.out.lt)
      have hvfar : ∀ b o, va = some ⟨b, o, none⟩ → w3.heap.size + 2 ≤ b := fun b o e => Nat.le_trans hsz4 (Nat.le_trans hB45.size (hvfr b o e))
      rw [Num.gval_one] at hvv1
      have HVV1 := Lib.hid hvv1
      obtain ⟨W7, hW7⟩ : ∃ W7, W7 = (W6.setCell ⟨(w3.heap.size + 1), 0, none⟩ (.bool g1)).setCell ⟨(w3.heap.size + 1), 1, none⟩ (.slice va vs.length vac) := ⟨_, rfl⟩
      have hB37 : Below w3.heap.size w3 W7 := by rw [hW7]; exact (hB36.setCell (p := ⟨(w3.heap.size + 1), 0, none⟩) (by simp) _).setCell (p := ⟨(w3.heap.size + 1), 1, none⟩) (by simp) _
      have hQ7 : NumAt W7 (w3.heap.size + 1) g1 (.slice va vs.length vac) := by rw [hW7]; exact (HQ6.out.set0 g1).set _
      have hR7 : NumAt W7 w3.heap.size na (.slice ra rs.length rcap) := by rw [hW7]; exact (HR6.out.setOther (a := ⟨(w3.heap.size + 1), 0, none⟩) (by simp) _).setOther (a := ⟨(w3.heap.size + 1), 1, none⟩) (by simp) _
      have hN7 := hNb3.below hB37 hNb3.lt
      have hrs7 := hrs.below hB37
      have hry7 := hry3.below hB37
      have hv7 : Rd W7 va vac vs := by rw [hW7]; exact (hvrd.setOther (a := ⟨(w3.heap.size + 1), 0, none⟩) (fun b o e => by have := hvfar b o e; simp; omega) _).setOther (a := ⟨(w3.heap.size + 1), 1, none⟩) (fun b o e => by have := hvfar b o e; simp; omega) _
      have hB7 : Below w.heap.size w W7 := HBW3.out.trans (hB37.mono HBW3.out.size)
      have HB37 := Lib.hid hB37
      have HQ7 := Lib.hid hQ7
      have HR7 := Lib.hid hR7
      have HB7 := Lib.hid hB7
      have HV7 := Lib.hid hv7
      have HFAR := Lib.hid hvfar
      obtain ⟨s0, s1, sf0, sf1⟩ := HQ6.out.cells
      obtain ⟨u0, u1, uf0, uf1⟩ := HR6.out.cells
      obtain ⟨z0, z1, _, _⟩ := HN6.out.cells
      clear q0 q1 qf0 qf1 r0 r1 rf0 rf1 hB45 hone hB56 hvfr hvv1 hB46 hB36 hqs4 hrs4 y0 y1 x0 x1 hB37 hQ7 hR7 hN7 hv7 hB7 hvfar hvrd
      go_wp2_with fail
      rw [← hW7]
      clear hW7 s0 s1 sf0 sf1 u0 u1 uf0 uf1 z0 z1
      refine (rAdd_num na nb W7 ra ya rcap cy _ _ rs (gS b) rfl rfl hrs7 hry7 hrc (gS_can b) (by omega)).mono ?_
      rintro e W8 ⟨g2, ua, uac, us, rfl, huc, huv, hurd, hul, hB78, hufr⟩
      have HQ8 := Lib.hid (HQ7.out.below hB78 HQ7.out.lt)
      have HR8 := Lib.hid (HR7.out.below hB78 HR7.out.lt)
      have HUV := Lib.hid huv
      have hufar : ∀ b o, ua = some ⟨b, o, none⟩ → w3.heap.size + 2 ≤ b := fun b o e => by
        have h1 := hufr b o e
        have h2 := HQ7.out.lt
        have h3 := HR7.out.lt
        omega
      obtain ⟨W9, hW9⟩ : ∃ W9, W9 = (W8.setCell ⟨w3.heap.size, 0, none⟩ (.bool g2)).setCell ⟨w3.heap.size, 1, none⟩ (.slice ua us.length uac) := ⟨_, rfl⟩
      have hQ9 : NumAt W9 (w3.heap.size + 1) g1 (.slice va vs.length vac) := by rw [hW9]; exact (HQ8.out.setOther (a := ⟨w3.heap.size, 0, none⟩) (by simp) _).setOther (a := ⟨w3.heap.size, 1, none⟩) (by simp) _
      have hR9 : NumAt W9 w3.heap.size g2 (.slice ua us.length uac) := by rw [hW9]; exact (HR8.out.set0 g2).set _
      have hv9 : Rd W9 va vac vs := by rw [hW9]; exact ((HV7.out.below hB78).setOther (a := ⟨w3.heap.size, 0, none⟩) (fun b o e => by have := HFAR.out b o e; simp; omega) _).setOther (a := ⟨w3.heap.size, 1, none⟩) (fun b o e => by have := HFAR.out b o e; simp; omega) _
      have hu9 : Rd W9 ua uac us := by rw [hW9]; exact (hurd.setOther (a := ⟨w3.heap.size, 0, none⟩) (fun b o e => by have := hufar b o e; simp; omega) _).setOther (a := ⟨w3.heap.size, 1, none⟩) (fun b o e => by have := hufar b o e; simp; omega) _
      have hB39 : Below w3.heap.size w3 W9 := by rw [hW9]; exact ((HB37.out.trans (hB78.mono HB37.out.size)).setCell (p := ⟨w3.heap.size, 0, none⟩) (by simp) _).setCell (p := ⟨w3.heap.size, 1, none⟩) (by simp) _
      obtain ⟨s0, s1, sf0, sf1⟩ := HQ8.out.cells
      obtain ⟨u0, u1, uf0, uf1⟩ := HR8.out.cells
      replace HQ := Lib.hid hQ9
      replace HR := Lib.hid hR9
      replace HBW := Lib.hid (HBW3.out.trans (hB39.mono HBW3.out.size))
      have HQD := Lib.hid (fun q => hv9.drewN q)
      have HRD := Lib.hid (fun q => hu9.drewN q)
      have HZ1 := Lib.hid hvc.1
      have HZ2 := Lib.hid huc.1
      have HL1 := Lib.hid (show vs.length ≤ 1000 by omega)
      have HL2 := Lib.hid (show us.length ≤ 1000 by omega)
      have HV1 := Lib.hid (HVV1.out.trans HVV.out.1)
      have HV2 := Lib.hid (HUV.out.trans HVV.out.2)
      clear huv hufar hQ9 hR9 hv9 hu9 hB39 hurd hB78 hufr hrs7 hry7
      go_wp2_with fail
      rw [← hW9]
      clear hW9 s0 s1 sf0 sf1 u0 u1 uf0 uf1
      obtain ⟨q0, q1, _, _⟩ := HQ.out.cells
      obtain ⟨r0, r1, _, _⟩ := HR.out.cells
      have HQe := Lib.hid (show NumAt W9.drew (w3.heap.size + 1) g1 (.slice va (List.length vs) vac) from HQ.out)
      have HRe := Lib.hid (show NumAt W9.drew w3.heap.size g2 (.slice ua (List.length us) uac) from HR.out)
      have HQDe := Lib.hid (show Rd W9.drew va vac vs from HQD.out 1)
      have HRDe := Lib.hid (show Rd W9.drew ua uac us from HRD.out 1)
      have HBWe := Lib.hid (show Below w.heap.size w W9.drew from below_drewN HBW.out 1)
      go_region_held3 (fun w' => w'.cell? ⟨(w3.heap.size + 1), 0, none⟩ = some (.bool g1) ∧ w'.cell? ⟨(w3.heap.size + 1), 1, none⟩ = some (.slice va (List.length vs) vac) ∧ w'.cell? ⟨w3.heap.size, 0, none⟩ = some (.bool g2) ∧ w'.cell? ⟨w3.heap.size, 1, none⟩ = some (.slice ua (List.length us) uac))
        (go_keep)
        (first
          | (go_at_call 115; (with_reducible refine (rWrite_any g1 _ va vac _ vs rfl HQDe.out HZ1.out HL1.out).mono ?_); rintro e V1 ⟨rfl, hV⟩; have HQ1 := Lib.hid (HQe.out.below hV HQe.out.lt); have HR1 := Lib.hid (HRe.out.below hV HRe.out.lt); obtain ⟨s0, s1, _, _⟩ := HQ1.out.cells; obtain ⟨t0, t1, _, _⟩ := HR1.out.cells; have HRD1 := Lib.hid (HRDe.out.below hV); have HBV := Lib.hid (HBWe.out.trans (hV.mono HBWe.out.size)); clear hV)
          | (go_at_call 115; (with_reducible refine (rWrite_any g2 _ ua uac _ us rfl HRD1.out HZ2.out HL2.out).mono ?_); rintro e V2 ⟨rfl, hV⟩; obtain ⟨s0', s1', _, _⟩ := (HQ1.out.below hV HQ1.out.lt).cells; obtain ⟨t0', t1', _, _⟩ := (HR1.out.below hV HR1.out.lt).cells; have HBV2 := Lib.hid (HBV.out.trans (hV.mono HBV.out.size)); clear hV))
      go_wp2_with fail
      go_ret3
      exact ⟨by rw [HV1.out, HV2.out]; rfl, HBV2.out⟩
    · have hvv := div_vals HVA.out HVB.out hx hr0 hlt (by
        by_cases h : na = nb
        · exact .inl h
        · right
          have h1 : (na == nb) = false := by simpa using h
          have h2 : rs = [] := by
            apply List.eq_nil_of_length_eq_zero
            by_cases h3 : 0 < rs.length
            · exact absurd ⟨h3, h1⟩ hcor
            · omega
          rw [h2]; rfl)
      have HQD := Lib.hid (fun q => hqs4.drewN q)
      have HRD := Lib.hid (fun q => hrs4.drewN q)
      have HZ1 := Lib.hid hqc.1
      have HZ2 := Lib.hid hrc.1
      have HL1 := Lib.hid (show qs.length ≤ 1000 by omega)
      have HL2 := Lib.hid (show rs.length ≤ 1000 by omega)
      have HV1 := Lib.hid (show sg sx (Num.gval qs) = Int.fdiv (vS a) (vS b) by rw [hsx]; exact hvv.1)
      have HV2 := Lib.hid hvv.2
      have hways : (¬ 0 < rs.length) ∨ (0 < rs.length ∧ (na == nb) = true) := by
        by_cases h3 : 0 < rs.length
        · refine .inr ⟨h3, ?_⟩
          by_cases h4 : (na == nb) = true
          · exact h4
          · exact absurd ⟨h3, by simpa using h4⟩ hcor
        · exact .inl h3
      clear hvv hqs4 hrs4 hsx hx hlt hcor
      rcases hways with hd1 | ⟨hd1, hd2⟩
      all_goals
        go_wp2_with fail
        obtain ⟨q0, q1, _, _⟩ := HQ.out.cells
        obtain ⟨r0, r1, _, _⟩ := HR.out.cells
        have HQe := Lib.hid (show NumAt W4.drew (w3.heap.size + 1) sx (.slice qa (List.length qs) qcap) from HQ.out)
        have HRe := Lib.hid (show NumAt W4.drew w3.heap.size na (.slice ra (List.length rs) rcap) from HR.out)
        have HQDe := Lib.hid (show Rd W4.drew qa qcap qs from HQD.out 1)
        have HRDe := Lib.hid (show Rd W4.drew ra rcap rs from HRD.out 1)
        have HBWe := Lib.hid (show Below w.heap.size w W4.drew from below_drewN HBW.out 1)
        go_region_held3 (fun w' => w'.cell? ⟨(w3.heap.size + 1), 0, none⟩ = some (.bool sx) ∧ w'.cell? ⟨(w3.heap.size + 1), 1, none⟩ = some (.slice qa (List.length qs) qcap) ∧ w'.cell? ⟨w3.heap.size, 0, none⟩ = some (.bool na) ∧ w'.cell? ⟨w3.heap.size, 1, none⟩ = some (.slice ra (List.length rs) rcap))
          (go_keep)
          (first
            | (go_at_call 115; (with_reducible refine (rWrite_any sx _ qa qcap _ qs rfl HQDe.out HZ1.out HL1.out).mono ?_); rintro e V1 ⟨rfl, hV⟩; have HQ1 := Lib.hid (HQe.out.below hV HQe.out.lt); have HR1 := Lib.hid (HRe.out.below hV HRe.out.lt); obtain ⟨s0, s1, _, _⟩ := HQ1.out.cells; obtain ⟨t0, t1, _, _⟩ := HR1.out.cells; have HRD1 := Lib.hid (HRDe.out.below hV); have HBV := Lib.hid (HBWe.out.trans (hV.mono HBWe.out.size)); clear hV)
            | (go_at_call 115; (with_reducible refine (rWrite_any na _ ra rcap _ rs rfl HRD1.out HZ2.out HL2.out).mono ?_); rintro e V2 ⟨rfl, hV⟩; obtain ⟨s0', s1', _, _⟩ := (HQ1.out.below hV HQ1.out.lt).cells; obtain ⟨t0', t1', _, _⟩ := (HR1.out.below hV HR1.out.lt).cells; have HBV2 := Lib.hid (HBV.out.trans (hV.mono HBV.out.size)); clear hV))
        go_wp2_with fail
        go_ret3
        exact ⟨by rw [HV1.out, HV2.out]; rfl, HBV2.out⟩

set_option maxRecDepth 100000 in
set_option maxHeartbeats 8000000 in
theorem rDiv_long2 (a b : ByteArray) (w : World) (ha : a.size ≤ 1000) (hb : b.size ≤ 1000) (h0 : vS b ≠ 0) (m p : Int)  (hsa : shortV a = .tuple #[.int .i64 m, .bool false]) (hsb : shortV b = .tuple #[.int .i64 p, .bool true]) (hz : (p == 0) = false) :
    Calls Tryz.prog 175 #[.string a, .string b] w (DivPost w (vS a) (vS b)) := by
  have HSA := Lib.hid hsa
  have HSB := Lib.hid hsb
  clear hsa hsb
  have hla := gS_length2 a ha
  have hlb := gS_length2 b hb
  have hva := vS_sg a
  have hvb := vS_sg b
  have hyl : (gS b).length ≠ 0 := fun h => h0 (grps_nil.1 h)
  have hyn : gS b ≠ [] := by intro h; rw [h] at hyl; exact hyl rfl
  obtain ⟨na, hna⟩ : ∃ na, na = Num.sneg a.data.toList := ⟨_, rfl⟩
  obtain ⟨nb, hnb⟩ : ∃ nb, nb = Num.sneg b.data.toList := ⟨_, rfl⟩
  rw [← hna] at hva
  rw [← hnb] at hvb
  have HVA := Lib.hid hva
  have HVB := Lib.hid hvb
  have HNA := Lib.hid hna
  have HNB := Lib.hid hnb
  have HYN := Lib.hid hyn
  obtain ⟨sx, hsx⟩ : ∃ sx, sx = !(na == nb) := ⟨_, rfl⟩
  have HSX := Lib.hid hsx
  clear hva hvb hyl hyn h0 hna hnb hsx
  go_enter Tryz.func175, Tryz.ntmps175
  go_wp2_with fail
  refine (short_any a w (by omega)).mono ?_
  rintro e _ ⟨rfl, rfl⟩
  rw [HSA.out]
  go_wp2_with fail
  refine (short_any b w (by omega)).mono ?_
  rintro e _ ⟨rfl, rfl⟩
  rw [HSB.out]
  go_wp2_with fail
  refine (rRead_any a w ha).mono ?_
  rintro e w1 ⟨xa, cx, rfl, hrx, hB1⟩
  rw [← HNA.out]
  go_wp2_with fail
  refine (rRead_any b w1 hb).mono ?_
  rintro e w2 ⟨ya, cy, rfl, hry, hB2⟩
  rw [← HNB.out]
  have hrx2 := hrx.below hB2
  have hB : Below w.heap.size w w2 := hB1.trans (hB2.mono hB1.size)
  clear hB1 hB2 hrx
  obtain ⟨W0, hW0⟩ : ∃ W0, W0 = (w2.alloc (.cells #[.bool na, .slice xa (gS a).length cx] 138)).alloc (.cells #[.bool nb, .slice ya (gS b).length cy] 138) := ⟨_, rfl⟩
  have hB0 : Below w2.heap.size w2 W0 := by rw [hW0]; exact ((Below.refl _ _).alloc (Nat.le_refl _) _).alloc (by simp) _
  have hNa : NumAt W0 w2.heap.size na (.slice xa (gS a).length cx) := by rw [hW0]; exact (NumAt.made w2 na _).alloc _
  have hNb : NumAt W0 (w2.heap.size + 1) nb (.slice ya (gS b).length cy) := by
    rw [hW0]
    have := NumAt.made (w2.alloc (.cells #[.bool na, .slice xa (gS a).length cx] 138)) nb (.slice ya (gS b).length cy)
    simpa using this
  have hrx0 := hrx2.below hB0
  have hry0 := hry.below hB0
  have HBB := Lib.hid (hB.trans (hB0.mono hB.size))
  clear hrx2 hry hB hB0
  go_wp2_with fail
  rw [← hW0]
  clear hW0
  refine (rDivide_any W0 xa ya cx cy _ _ (gS a) (gS b) rfl rfl hrx0 hry0 (gS_can a) (gS_can b) HYN.out (by omega)).mono ?_
  rintro e w3 ⟨qs, rs, qa, qcap, ra, rcap, rfl, hqc, hrc, hx, hlt, hqs, hrs, hql, hrl, hB3⟩
  have hNa3 := hNa.below hB3 hNa.lt
  have hNb3 := hNb.below hB3 hNb.lt
  have hry3 := hry0.below hB3
  obtain ⟨a0, a1, _, _⟩ := hNa3.cells
  obtain ⟨b0, b1, _, _⟩ := hNb3.cells
  have HBW3 := Lib.hid (HBB.out.trans (hB3.mono HBB.out.size))
  have hr0 := Num.gval_nonneg hrc.1
  have hl1 := hNb3.lt
  have k1 := World.new_ne w3 _ a0
  have k2 := World.new_ne w3 _ b0
  have n1 : w2.heap.size ≠ w3.heap.size := by omega
  have n2 : w2.heap.size ≠ w3.heap.size + 1 := by omega
  have n3 : w2.heap.size + 1 ≠ w3.heap.size := by omega
  have n1' : w3.heap.size ≠ w2.heap.size := by omega
  have n2' : w3.heap.size + 1 ≠ w2.heap.size := by omega
  have n3' : w3.heap.size ≠ w2.heap.size + 1 := by omega
  go_wp2_with fail
  clear hNa hNb hrx0 hry0 hB3
  go_region_held3 (fun w' => w'.cell? ⟨w2.heap.size, 0, none⟩ = some (.bool na) ∧ w'.cell? ⟨w2.heap.size + 1, 0, none⟩ = some (.bool nb)) (go_keep) (fail)
  all_goals have hsx := HSX.out
  · rw [← hsx]
    obtain ⟨W4, hW4⟩ : ∃ W4, W4 = ((w3.alloc (.cells #[.bool sx, .slice qa qs.length qcap] 138)).alloc (.cells #[.bool na, .slice ra rs.length rcap] 138)).drew := ⟨_, rfl⟩
    have hQ4 : NumAt W4 w3.heap.size sx (.slice qa qs.length qcap) := by rw [hW4]; exact (NumAt.made w3 sx (.slice qa qs.length qcap)).alloc _
    have hR4 : NumAt W4 (w3.heap.size + 1) na (.slice ra rs.length rcap) := by
      rw [hW4]
      have h := NumAt.made (w3.alloc (.cells #[.bool sx, .slice qa qs.length qcap] 138)) na (.slice ra rs.length rcap)
      have h2 : NumAt ((w3.alloc (.cells #[.bool sx, .slice qa qs.length qcap] 138)).alloc (.cells #[.bool na, .slice ra rs.length rcap] 138)) (w3.heap.size + 1) na (.slice ra rs.length rcap) := by simpa using h
      exact h2
    have hB34 : Below w3.heap.size w3 W4 := by rw [hW4]; exact (((Below.refl w3.heap.size w3).alloc (Nat.le_refl _) _).alloc (by simp) _).drew
    have hNb4 := hNb3.below hB34 hNb3.lt
    have hNa4 := hNa3.below hB34 hNa3.lt
    have hqs4 := hqs.below hB34
    have hrs4 := hrs.below hB34
    have hsz4 : w3.heap.size + 2 ≤ W4.heap.size := by rw [hW4]; simp
    have HQ := Lib.hid hQ4
    have HR := Lib.hid hR4
    have HBW := Lib.hid (HBW3.out.trans (hB34.mono HBW3.out.size))
    have HN4 := Lib.hid hNb4
    have HB34 := Lib.hid hB34
    obtain ⟨x0, x1, _, _⟩ := hNa4.cells
    obtain ⟨y0, y1, _, _⟩ := hNb4.cells
    rw [← hW4]
    clear hW4 hQ4 hR4 hNb4 hNa4 hB34 a0 a1 b0 b1
    by_cases hcor : 0 < rs.length ∧ (na == nb) = false
    · obtain ⟨hrl0, hbb⟩ := hcor
      have hne : na ≠ nb := by simpa using hbb
      have hrpos := Num.gval_pos hrc (by rintro rfl; simp at hrl0)
      have hvv := div_fixed HVA.out HVB.out hx hrpos hlt hne
      have HVV := Lib.hid hvv
      have hsx2 : sx = true := by rw [hsx, hbb]; rfl
      subst hsx2
      clear hvv hne hsx hx hlt
      obtain ⟨q0, q1, qf0, qf1⟩ := HQ.out.cells
      obtain ⟨r0, r1, rf0, rf1⟩ := HR.out.cells
      go_wp2_with fail
      obtain ⟨W5, hW5⟩ : ∃ W5, W5 = W4.alloc (.cells #[.int .i64 1] 3) := ⟨_, rfl⟩
      have hB45 : Below W4.heap.size W4 W5 := by rw [hW5]; exact (Below.refl _ _).alloc (Nat.le_refl _) _
      have hone : Rd W5 (some ⟨W4.heap.size, 0, none⟩) 1 [1] := by rw [hW5]; exact ⟨by simp, fun _ => ⟨_, 0, rfl, (one_sl W4 1).sr (by simp)⟩⟩
      rw [← hW5]
      clear hW5
      refine (rAdd_num true true W5 qa (some ⟨W4.heap.size, 0, none⟩) qcap 1 _ 1 qs [1] rfl rfl (hqs4.below hB45) hone hqc ⟨Num.Norm.one (by decide) (by decide), by simp⟩ (by simp; omega)).mono ?_
      rintro e W6 ⟨g1, va, vac, vs, rfl, hvc, hvv1, hvrd, hvl, hB56, hvfr⟩
      have hB46 := hB45.trans (hB56.mono hB45.size)
      have hB36 := HB34.out.trans (hB46.mono HB34.out.size)
      have HQ6 := Lib.hid (HQ.out.below hB46 HQ.out.lt)
      have HR6 := Lib.hid (HR.out.below hB46 HR.out.lt)
      have HN6 := Lib.hid (HN4.out.below hB46 HN4.out.lt)
      have hvfar : ∀ b o, va = some ⟨b, o, none⟩ → w3.heap.size + 2 ≤ b := fun b o e => Nat.le_trans hsz4 (Nat.le_trans hB45.size (hvfr b o e))
      rw [Num.gval_one] at hvv1
      have HVV1 := Lib.hid hvv1
      obtain ⟨W7, hW7⟩ : ∃ W7, W7 = (W6.setCell ⟨w3.heap.size, 0, none⟩ (.bool g1)).setCell ⟨w3.heap.size, 1, none⟩ (.slice va vs.length vac) := ⟨_, rfl⟩
      have hB37 : Below w3.heap.size w3 W7 := by rw [hW7]; exact (hB36.setCell (p := ⟨w3.heap.size, 0, none⟩) (by simp) _).setCell (p := ⟨w3.heap.size, 1, none⟩) (by simp) _
      have hQ7 : NumAt W7 w3.heap.size g1 (.slice va vs.length vac) := by rw [hW7]; exact (HQ6.out.set0 g1).set _
      have hR7 : NumAt W7 (w3.heap.size + 1) na (.slice ra rs.length rcap) := by rw [hW7]; exact (HR6.out.setOther (a := ⟨w3.heap.size, 0, none⟩) (by simp) _).setOther (a := ⟨w3.heap.size, 1, none⟩) (by simp) _
      have hN7 := hNb3.below hB37 hNb3.lt
      have hrs7 := hrs.below hB37
      have hry7 := hry3.below hB37
      have hv7 : Rd W7 va vac vs := by rw [hW7]; exact (hvrd.setOther (a := ⟨w3.heap.size, 0, none⟩) (fun b o e => by have := hvfar b o e; simp; omega) _).setOther (a := ⟨w3.heap.size, 1, none⟩) (fun b o e => by have := hvfar b o e; simp; omega) _
      have hB7 : Below w.heap.size w W7 := HBW3.out.trans (hB37.mono HBW3.out.size)
      have HB37 := Lib.hid hB37
      have HQ7 := Lib.hid hQ7
      have HR7 := Lib.hid hR7
      have HB7 := Lib.hid hB7
      have HV7 := Lib.hid hv7
      have HFAR := Lib.hid hvfar
      obtain ⟨s0, s1, sf0, sf1⟩ := HQ6.out.cells
      obtain ⟨u0, u1, uf0, uf1⟩ := HR6.out.cells
      obtain ⟨z0, z1, _, _⟩ := HN6.out.cells
      clear q0 q1 qf0 qf1 r0 r1 rf0 rf1 hB45 hone hB56 hvfr hvv1 hB46 hB36 hqs4 hrs4 y0 y1 x0 x1 hB37 hQ7 hR7 hN7 hv7 hB7 hvfar hvrd
      go_wp2_with fail
      rw [← hW7]
      clear hW7 s0 s1 sf0 sf1 u0 u1 uf0 uf1 z0 z1
      refine (rAdd_num na nb W7 ra ya rcap cy _ _ rs (gS b) rfl rfl hrs7 hry7 hrc (gS_can b) (by omega)).mono ?_
      rintro e W8 ⟨g2, ua, uac, us, rfl, huc, huv, hurd, hul, hB78, hufr⟩
      have HQ8 := Lib.hid (HQ7.out.below hB78 HQ7.out.lt)
      have HR8 := Lib.hid (HR7.out.below hB78 HR7.out.lt)
      have HUV := Lib.hid huv
      have hufar : ∀ b o, ua = some ⟨b, o, none⟩ → w3.heap.size + 2 ≤ b := fun b o e => by
        have h1 := hufr b o e
        have h2 := HQ7.out.lt
        have h3 := HR7.out.lt
        omega
      obtain ⟨W9, hW9⟩ : ∃ W9, W9 = (W8.setCell ⟨(w3.heap.size + 1), 0, none⟩ (.bool g2)).setCell ⟨(w3.heap.size + 1), 1, none⟩ (.slice ua us.length uac) := ⟨_, rfl⟩
      have hQ9 : NumAt W9 w3.heap.size g1 (.slice va vs.length vac) := by rw [hW9]; exact (HQ8.out.setOther (a := ⟨(w3.heap.size + 1), 0, none⟩) (by simp) _).setOther (a := ⟨(w3.heap.size + 1), 1, none⟩) (by simp) _
      have hR9 : NumAt W9 (w3.heap.size + 1) g2 (.slice ua us.length uac) := by rw [hW9]; exact (HR8.out.set0 g2).set _
      have hv9 : Rd W9 va vac vs := by rw [hW9]; exact ((HV7.out.below hB78).setOther (a := ⟨(w3.heap.size + 1), 0, none⟩) (fun b o e => by have := HFAR.out b o e; simp; omega) _).setOther (a := ⟨(w3.heap.size + 1), 1, none⟩) (fun b o e => by have := HFAR.out b o e; simp; omega) _
      have hu9 : Rd W9 ua uac us := by rw [hW9]; exact (hurd.setOther (a := ⟨(w3.heap.size + 1), 0, none⟩) (fun b o e => by have := hufar b o e; simp; omega) _).setOther (a := ⟨(w3.heap.size + 1), 1, none⟩) (fun b o e => by have := hufar b o e; simp; omega) _
      have hB39 : Below w3.heap.size w3 W9 := by rw [hW9]; exact ((HB37.out.trans (hB78.mono HB37.out.size)).setCell (p := ⟨(w3.heap.size + 1), 0, none⟩) (by simp) _).setCell (p := ⟨(w3.heap.size + 1), 1, none⟩) (by simp) _
      obtain ⟨s0, s1, sf0, sf1⟩ := HQ8.out.cells
      obtain ⟨u0, u1, uf0, uf1⟩ := HR8.out.cells
      replace HQ := Lib.hid hQ9
      replace HR := Lib.hid hR9
      replace HBW := Lib.hid (HBW3.out.trans (hB39.mono HBW3.out.size))
      have HQD := Lib.hid (fun q => hv9.drewN q)
      have HRD := Lib.hid (fun q => hu9.drewN q)
      have HZ1 := Lib.hid hvc.1
      have HZ2 := Lib.hid huc.1
      have HL1 := Lib.hid (show vs.length ≤ 1000 by omega)
      have HL2 := Lib.hid (show us.length ≤ 1000 by omega)
      have HV1 := Lib.hid (HVV1.out.trans HVV.out.1)
      have HV2 := Lib.hid (HUV.out.trans HVV.out.2)
      clear huv hufar hQ9 hR9 hv9 hu9 hB39 hurd hB78 hufr hrs7 hry7
      go_wp2_with fail
      rw [← hW9]
      clear hW9 s0 s1 sf0 sf1 u0 u1 uf0 uf1
      obtain ⟨q0, q1, _, _⟩ := HQ.out.cells
      obtain ⟨r0, r1, _, _⟩ := HR.out.cells
      have HQe := Lib.hid (show NumAt W9.drew w3.heap.size g1 (.slice va (List.length vs) vac) from HQ.out)
      have HRe := Lib.hid (show NumAt W9.drew (w3.heap.size + 1) g2 (.slice ua (List.length us) uac) from HR.out)
      have HQDe := Lib.hid (show Rd W9.drew va vac vs from HQD.out 1)
      have HRDe := Lib.hid (show Rd W9.drew ua uac us from HRD.out 1)
      have HBWe := Lib.hid (show Below w.heap.size w W9.drew from below_drewN HBW.out 1)
      go_region_held3 (fun w' => w'.cell? ⟨w3.heap.size, 0, none⟩ = some (.bool g1) ∧ w'.cell? ⟨w3.heap.size, 1, none⟩ = some (.slice va (List.length vs) vac) ∧ w'.cell? ⟨(w3.heap.size + 1), 0, none⟩ = some (.bool g2) ∧ w'.cell? ⟨(w3.heap.size + 1), 1, none⟩ = some (.slice ua (List.length us) uac))
        (go_keep)
        (first
          | (go_at_call 115; (with_reducible refine (rWrite_any g1 _ va vac _ vs rfl HQDe.out HZ1.out HL1.out).mono ?_); rintro e V1 ⟨rfl, hV⟩; have HQ1 := Lib.hid (HQe.out.below hV HQe.out.lt); have HR1 := Lib.hid (HRe.out.below hV HRe.out.lt); obtain ⟨s0, s1, _, _⟩ := HQ1.out.cells; obtain ⟨t0, t1, _, _⟩ := HR1.out.cells; have HRD1 := Lib.hid (HRDe.out.below hV); have HBV := Lib.hid (HBWe.out.trans (hV.mono HBWe.out.size)); clear hV)
          | (go_at_call 115; (with_reducible refine (rWrite_any g2 _ ua uac _ us rfl HRD1.out HZ2.out HL2.out).mono ?_); rintro e V2 ⟨rfl, hV⟩; obtain ⟨s0', s1', _, _⟩ := (HQ1.out.below hV HQ1.out.lt).cells; obtain ⟨t0', t1', _, _⟩ := (HR1.out.below hV HR1.out.lt).cells; have HBV2 := Lib.hid (HBV.out.trans (hV.mono HBV.out.size)); clear hV))
      go_wp2_with fail
      go_ret3
      exact ⟨by rw [HV1.out, HV2.out]; rfl, HBV2.out⟩
    · have hvv := div_vals HVA.out HVB.out hx hr0 hlt (by
        by_cases h : na = nb
        · exact .inl h
        · right
          have h1 : (na == nb) = false := by simpa using h
          have h2 : rs = [] := by
            apply List.eq_nil_of_length_eq_zero
            by_cases h3 : 0 < rs.length
            · exact absurd ⟨h3, h1⟩ hcor
            · omega
          rw [h2]; rfl)
      have HQD := Lib.hid (fun q => hqs4.drewN q)
      have HRD := Lib.hid (fun q => hrs4.drewN q)
      have HZ1 := Lib.hid hqc.1
      have HZ2 := Lib.hid hrc.1
      have HL1 := Lib.hid (show qs.length ≤ 1000 by omega)
      have HL2 := Lib.hid (show rs.length ≤ 1000 by omega)
      have HV1 := Lib.hid (show sg sx (Num.gval qs) = Int.fdiv (vS a) (vS b) by rw [hsx]; exact hvv.1)
      have HV2 := Lib.hid hvv.2
      have hways : (¬ 0 < rs.length) ∨ (0 < rs.length ∧ (na == nb) = true) := by
        by_cases h3 : 0 < rs.length
        · refine .inr ⟨h3, ?_⟩
          by_cases h4 : (na == nb) = true
          · exact h4
          · exact absurd ⟨h3, by simpa using h4⟩ hcor
        · exact .inl h3
      clear hvv hqs4 hrs4 hsx hx hlt hcor
      rcases hways with hd1 | ⟨hd1, hd2⟩
      all_goals
        go_wp2_with fail
        obtain ⟨q0, q1, _, _⟩ := HQ.out.cells
        obtain ⟨r0, r1, _, _⟩ := HR.out.cells
        have HQe := Lib.hid (show NumAt W4.drew w3.heap.size sx (.slice qa (List.length qs) qcap) from HQ.out)
        have HRe := Lib.hid (show NumAt W4.drew (w3.heap.size + 1) na (.slice ra (List.length rs) rcap) from HR.out)
        have HQDe := Lib.hid (show Rd W4.drew qa qcap qs from HQD.out 1)
        have HRDe := Lib.hid (show Rd W4.drew ra rcap rs from HRD.out 1)
        have HBWe := Lib.hid (show Below w.heap.size w W4.drew from below_drewN HBW.out 1)
        go_region_held3 (fun w' => w'.cell? ⟨w3.heap.size, 0, none⟩ = some (.bool sx) ∧ w'.cell? ⟨w3.heap.size, 1, none⟩ = some (.slice qa (List.length qs) qcap) ∧ w'.cell? ⟨(w3.heap.size + 1), 0, none⟩ = some (.bool na) ∧ w'.cell? ⟨(w3.heap.size + 1), 1, none⟩ = some (.slice ra (List.length rs) rcap))
          (go_keep)
          (first
            | (go_at_call 115; (with_reducible refine (rWrite_any sx _ qa qcap _ qs rfl HQDe.out HZ1.out HL1.out).mono ?_); rintro e V1 ⟨rfl, hV⟩; have HQ1 := Lib.hid (HQe.out.below hV HQe.out.lt); have HR1 := Lib.hid (HRe.out.below hV HRe.out.lt); obtain ⟨s0, s1, _, _⟩ := HQ1.out.cells; obtain ⟨t0, t1, _, _⟩ := HR1.out.cells; have HRD1 := Lib.hid (HRDe.out.below hV); have HBV := Lib.hid (HBWe.out.trans (hV.mono HBWe.out.size)); clear hV)
            | (go_at_call 115; (with_reducible refine (rWrite_any na _ ra rcap _ rs rfl HRD1.out HZ2.out HL2.out).mono ?_); rintro e V2 ⟨rfl, hV⟩; obtain ⟨s0', s1', _, _⟩ := (HQ1.out.below hV HQ1.out.lt).cells; obtain ⟨t0', t1', _, _⟩ := (HR1.out.below hV HR1.out.lt).cells; have HBV2 := Lib.hid (HBV.out.trans (hV.mono HBV.out.size)); clear hV))
        go_wp2_with fail
        go_ret3
        exact ⟨by rw [HV1.out, HV2.out]; rfl, HBV2.out⟩
  · rw [← hsx]
    obtain ⟨W4, hW4⟩ : ∃ W4, W4 = ((w3.alloc (.cells #[.bool na, .slice ra rs.length rcap] 138)).alloc (.cells #[.bool sx, .slice qa qs.length qcap] 138)).drew := ⟨_, rfl⟩
    have hR4 : NumAt W4 w3.heap.size na (.slice ra rs.length rcap) := by rw [hW4]; exact (NumAt.made w3 na (.slice ra rs.length rcap)).alloc _
    have hQ4 : NumAt W4 (w3.heap.size + 1) sx (.slice qa qs.length qcap) := by
      rw [hW4]
      have h := NumAt.made (w3.alloc (.cells #[.bool na, .slice ra rs.length rcap] 138)) sx (.slice qa qs.length qcap)
      have h2 : NumAt ((w3.alloc (.cells #[.bool na, .slice ra rs.length rcap] 138)).alloc (.cells #[.bool sx, .slice qa qs.length qcap] 138)) (w3.heap.size + 1) sx (.slice qa qs.length qcap) := by simpa using h
      exact h2
    have hB34 : Below w3.heap.size w3 W4 := by rw [hW4]; exact (((Below.refl w3.heap.size w3).alloc (Nat.le_refl _) _).alloc (by simp) _).drew
    have hNb4 := hNb3.below hB34 hNb3.lt
    have hNa4 := hNa3.below hB34 hNa3.lt
    have hqs4 := hqs.below hB34
    have hrs4 := hrs.below hB34
    have hsz4 : w3.heap.size + 2 ≤ W4.heap.size := by rw [hW4]; simp
    have HQ := Lib.hid hQ4
    have HR := Lib.hid hR4
    have HBW := Lib.hid (HBW3.out.trans (hB34.mono HBW3.out.size))
    have HN4 := Lib.hid hNb4
    have HB34 := Lib.hid hB34
    obtain ⟨x0, x1, _, _⟩ := hNa4.cells
    obtain ⟨y0, y1, _, _⟩ := hNb4.cells
    rw [← hW4]
    clear hW4 hQ4 hR4 hNb4 hNa4 hB34 a0 a1 b0 b1
    by_cases hcor : 0 < rs.length ∧ (na == nb) = false
    · obtain ⟨hrl0, hbb⟩ := hcor
      have hne : na ≠ nb := by simpa using hbb
      have hrpos := Num.gval_pos hrc (by rintro rfl; simp at hrl0)
      have hvv := div_fixed HVA.out HVB.out hx hrpos hlt hne
      have HVV := Lib.hid hvv
      have hsx2 : sx = true := by rw [hsx, hbb]; rfl
      subst hsx2
      clear hvv hne hsx hx hlt
      obtain ⟨q0, q1, qf0, qf1⟩ := HQ.out.cells
      obtain ⟨r0, r1, rf0, rf1⟩ := HR.out.cells
      go_wp2_with fail
      obtain ⟨W5, hW5⟩ : ∃ W5, W5 = W4.alloc (.cells #[.int .i64 1] 3) := ⟨_, rfl⟩
      have hB45 : Below W4.heap.size W4 W5 := by rw [hW5]; exact (Below.refl _ _).alloc (Nat.le_refl _) _
      have hone : Rd W5 (some ⟨W4.heap.size, 0, none⟩) 1 [1] := by rw [hW5]; exact ⟨by simp, fun _ => ⟨_, 0, rfl, (one_sl W4 1).sr (by simp)⟩⟩
      rw [← hW5]
      clear hW5
      refine (rAdd_num true true W5 qa (some ⟨W4.heap.size, 0, none⟩) qcap 1 _ 1 qs [1] rfl rfl (hqs4.below hB45) hone hqc ⟨Num.Norm.one (by decide) (by decide), by simp⟩ (by simp; omega)).mono ?_
      rintro e W6 ⟨g1, va, vac, vs, rfl, hvc, hvv1, hvrd, hvl, hB56, hvfr⟩
      have hB46 := hB45.trans (hB56.mono hB45.size)
      have hB36 := HB34.out.trans (hB46.mono HB34.out.size)
      have HQ6 := Lib.hid (HQ.out.below hB46 HQ.out.lt)
      have HR6 := Lib.hid (HR.out.below hB46 HR.out.lt)
      have HN6 := Lib.hid (HN4.out.below hB46 HN4.out.lt)
      have hvfar : ∀ b o, va = some ⟨b, o, none⟩ → w3.heap.size + 2 ≤ b := fun b o e => Nat.le_trans hsz4 (Nat.le_trans hB45.size (hvfr b o e))
      rw [Num.gval_one] at hvv1
      have HVV1 := Lib.hid hvv1
      obtain ⟨W7, hW7⟩ : ∃ W7, W7 = (W6.setCell ⟨(w3.heap.size + 1), 0, none⟩ (.bool g1)).setCell ⟨(w3.heap.size + 1), 1, none⟩ (.slice va vs.length vac) := ⟨_, rfl⟩
      have hB37 : Below w3.heap.size w3 W7 := by rw [hW7]; exact (hB36.setCell (p := ⟨(w3.heap.size + 1), 0, none⟩) (by simp) _).setCell (p := ⟨(w3.heap.size + 1), 1, none⟩) (by simp) _
      have hQ7 : NumAt W7 (w3.heap.size + 1) g1 (.slice va vs.length vac) := by rw [hW7]; exact (HQ6.out.set0 g1).set _
      have hR7 : NumAt W7 w3.heap.size na (.slice ra rs.length rcap) := by rw [hW7]; exact (HR6.out.setOther (a := ⟨(w3.heap.size + 1), 0, none⟩) (by simp) _).setOther (a := ⟨(w3.heap.size + 1), 1, none⟩) (by simp) _
      have hN7 := hNb3.below hB37 hNb3.lt
      have hrs7 := hrs.below hB37
      have hry7 := hry3.below hB37
      have hv7 : Rd W7 va vac vs := by rw [hW7]; exact (hvrd.setOther (a := ⟨(w3.heap.size + 1), 0, none⟩) (fun b o e => by have := hvfar b o e; simp; omega) _).setOther (a := ⟨(w3.heap.size + 1), 1, none⟩) (fun b o e => by have := hvfar b o e; simp; omega) _
      have hB7 : Below w.heap.size w W7 := HBW3.out.trans (hB37.mono HBW3.out.size)
      have HB37 := Lib.hid hB37
      have HQ7 := Lib.hid hQ7
      have HR7 := Lib.hid hR7
      have HB7 := Lib.hid hB7
      have HV7 := Lib.hid hv7
      have HFAR := Lib.hid hvfar
      obtain ⟨s0, s1, sf0, sf1⟩ := HQ6.out.cells
      obtain ⟨u0, u1, uf0, uf1⟩ := HR6.out.cells
      obtain ⟨z0, z1, _, _⟩ := HN6.out.cells
      clear q0 q1 qf0 qf1 r0 r1 rf0 rf1 hB45 hone hB56 hvfr hvv1 hB46 hB36 hqs4 hrs4 y0 y1 x0 x1 hB37 hQ7 hR7 hN7 hv7 hB7 hvfar hvrd
      go_wp2_with fail
      rw [← hW7]
      clear hW7 s0 s1 sf0 sf1 u0 u1 uf0 uf1 z0 z1
      refine (rAdd_num na nb W7 ra ya rcap cy _ _ rs (gS b) rfl rfl hrs7 hry7 hrc (gS_can b) (by omega)).mono ?_
      rintro e W8 ⟨g2, ua, uac, us, rfl, huc, huv, hurd, hul, hB78, hufr⟩
      have HQ8 := Lib.hid (HQ7.out.below hB78 HQ7.out.lt)
      have HR8 := Lib.hid (HR7.out.below hB78 HR7.out.lt)
      have HUV := Lib.hid huv
      have hufar : ∀ b o, ua = some ⟨b, o, none⟩ → w3.heap.size + 2 ≤ b := fun b o e => by
        have h1 := hufr b o e
        have h2 := HQ7.out.lt
        have h3 := HR7.out.lt
        omega
      obtain ⟨W9, hW9⟩ : ∃ W9, W9 = (W8.setCell ⟨w3.heap.size, 0, none⟩ (.bool g2)).setCell ⟨w3.heap.size, 1, none⟩ (.slice ua us.length uac) := ⟨_, rfl⟩
      have hQ9 : NumAt W9 (w3.heap.size + 1) g1 (.slice va vs.length vac) := by rw [hW9]; exact (HQ8.out.setOther (a := ⟨w3.heap.size, 0, none⟩) (by simp) _).setOther (a := ⟨w3.heap.size, 1, none⟩) (by simp) _
      have hR9 : NumAt W9 w3.heap.size g2 (.slice ua us.length uac) := by rw [hW9]; exact (HR8.out.set0 g2).set _
      have hv9 : Rd W9 va vac vs := by rw [hW9]; exact ((HV7.out.below hB78).setOther (a := ⟨w3.heap.size, 0, none⟩) (fun b o e => by have := HFAR.out b o e; simp; omega) _).setOther (a := ⟨w3.heap.size, 1, none⟩) (fun b o e => by have := HFAR.out b o e; simp; omega) _
      have hu9 : Rd W9 ua uac us := by rw [hW9]; exact (hurd.setOther (a := ⟨w3.heap.size, 0, none⟩) (fun b o e => by have := hufar b o e; simp; omega) _).setOther (a := ⟨w3.heap.size, 1, none⟩) (fun b o e => by have := hufar b o e; simp; omega) _
      have hB39 : Below w3.heap.size w3 W9 := by rw [hW9]; exact ((HB37.out.trans (hB78.mono HB37.out.size)).setCell (p := ⟨w3.heap.size, 0, none⟩) (by simp) _).setCell (p := ⟨w3.heap.size, 1, none⟩) (by simp) _
      obtain ⟨s0, s1, sf0, sf1⟩ := HQ8.out.cells
      obtain ⟨u0, u1, uf0, uf1⟩ := HR8.out.cells
      replace HQ := Lib.hid hQ9
      replace HR := Lib.hid hR9
      replace HBW := Lib.hid (HBW3.out.trans (hB39.mono HBW3.out.size))
      have HQD := Lib.hid (fun q => hv9.drewN q)
      have HRD := Lib.hid (fun q => hu9.drewN q)
      have HZ1 := Lib.hid hvc.1
      have HZ2 := Lib.hid huc.1
      have HL1 := Lib.hid (show vs.length ≤ 1000 by omega)
      have HL2 := Lib.hid (show us.length ≤ 1000 by omega)
      have HV1 := Lib.hid (HVV1.out.trans HVV.out.1)
      have HV2 := Lib.hid (HUV.out.trans HVV.out.2)
      clear huv hufar hQ9 hR9 hv9 hu9 hB39 hurd hB78 hufr hrs7 hry7
      go_wp2_with fail
      rw [← hW9]
      clear hW9 s0 s1 sf0 sf1 u0 u1 uf0 uf1
      obtain ⟨q0, q1, _, _⟩ := HQ.out.cells
      obtain ⟨r0, r1, _, _⟩ := HR.out.cells
      have HQe := Lib.hid (show NumAt W9.drew (w3.heap.size + 1) g1 (.slice va (List.length vs) vac) from HQ.out)
      have HRe := Lib.hid (show NumAt W9.drew w3.heap.size g2 (.slice ua (List.length us) uac) from HR.out)
      have HQDe := Lib.hid (show Rd W9.drew va vac vs from HQD.out 1)
      have HRDe := Lib.hid (show Rd W9.drew ua uac us from HRD.out 1)
      have HBWe := Lib.hid (show Below w.heap.size w W9.drew from below_drewN HBW.out 1)
      go_region_held3 (fun w' => w'.cell? ⟨(w3.heap.size + 1), 0, none⟩ = some (.bool g1) ∧ w'.cell? ⟨(w3.heap.size + 1), 1, none⟩ = some (.slice va (List.length vs) vac) ∧ w'.cell? ⟨w3.heap.size, 0, none⟩ = some (.bool g2) ∧ w'.cell? ⟨w3.heap.size, 1, none⟩ = some (.slice ua (List.length us) uac))
        (go_keep)
        (first
          | (go_at_call 115; (with_reducible refine (rWrite_any g1 _ va vac _ vs rfl HQDe.out HZ1.out HL1.out).mono ?_); rintro e V1 ⟨rfl, hV⟩; have HQ1 := Lib.hid (HQe.out.below hV HQe.out.lt); have HR1 := Lib.hid (HRe.out.below hV HRe.out.lt); obtain ⟨s0, s1, _, _⟩ := HQ1.out.cells; obtain ⟨t0, t1, _, _⟩ := HR1.out.cells; have HRD1 := Lib.hid (HRDe.out.below hV); have HBV := Lib.hid (HBWe.out.trans (hV.mono HBWe.out.size)); clear hV)
          | (go_at_call 115; (with_reducible refine (rWrite_any g2 _ ua uac _ us rfl HRD1.out HZ2.out HL2.out).mono ?_); rintro e V2 ⟨rfl, hV⟩; obtain ⟨s0', s1', _, _⟩ := (HQ1.out.below hV HQ1.out.lt).cells; obtain ⟨t0', t1', _, _⟩ := (HR1.out.below hV HR1.out.lt).cells; have HBV2 := Lib.hid (HBV.out.trans (hV.mono HBV.out.size)); clear hV))
      go_wp2_with fail
      go_ret3
      exact ⟨by rw [HV1.out, HV2.out]; rfl, HBV2.out⟩
    · have hvv := div_vals HVA.out HVB.out hx hr0 hlt (by
        by_cases h : na = nb
        · exact .inl h
        · right
          have h1 : (na == nb) = false := by simpa using h
          have h2 : rs = [] := by
            apply List.eq_nil_of_length_eq_zero
            by_cases h3 : 0 < rs.length
            · exact absurd ⟨h3, h1⟩ hcor
            · omega
          rw [h2]; rfl)
      have HQD := Lib.hid (fun q => hqs4.drewN q)
      have HRD := Lib.hid (fun q => hrs4.drewN q)
      have HZ1 := Lib.hid hqc.1
      have HZ2 := Lib.hid hrc.1
      have HL1 := Lib.hid (show qs.length ≤ 1000 by omega)
      have HL2 := Lib.hid (show rs.length ≤ 1000 by omega)
      have HV1 := Lib.hid (show sg sx (Num.gval qs) = Int.fdiv (vS a) (vS b) by rw [hsx]; exact hvv.1)
      have HV2 := Lib.hid hvv.2
      have hways : (¬ 0 < rs.length) ∨ (0 < rs.length ∧ (na == nb) = true) := by
        by_cases h3 : 0 < rs.length
        · refine .inr ⟨h3, ?_⟩
          by_cases h4 : (na == nb) = true
          · exact h4
          · exact absurd ⟨h3, by simpa using h4⟩ hcor
        · exact .inl h3
      clear hvv hqs4 hrs4 hsx hx hlt hcor
      rcases hways with hd1 | ⟨hd1, hd2⟩
      all_goals
        go_wp2_with fail
        obtain ⟨q0, q1, _, _⟩ := HQ.out.cells
        obtain ⟨r0, r1, _, _⟩ := HR.out.cells
        have HQe := Lib.hid (show NumAt W4.drew (w3.heap.size + 1) sx (.slice qa (List.length qs) qcap) from HQ.out)
        have HRe := Lib.hid (show NumAt W4.drew w3.heap.size na (.slice ra (List.length rs) rcap) from HR.out)
        have HQDe := Lib.hid (show Rd W4.drew qa qcap qs from HQD.out 1)
        have HRDe := Lib.hid (show Rd W4.drew ra rcap rs from HRD.out 1)
        have HBWe := Lib.hid (show Below w.heap.size w W4.drew from below_drewN HBW.out 1)
        go_region_held3 (fun w' => w'.cell? ⟨(w3.heap.size + 1), 0, none⟩ = some (.bool sx) ∧ w'.cell? ⟨(w3.heap.size + 1), 1, none⟩ = some (.slice qa (List.length qs) qcap) ∧ w'.cell? ⟨w3.heap.size, 0, none⟩ = some (.bool na) ∧ w'.cell? ⟨w3.heap.size, 1, none⟩ = some (.slice ra (List.length rs) rcap))
          (go_keep)
          (first
            | (go_at_call 115; (with_reducible refine (rWrite_any sx _ qa qcap _ qs rfl HQDe.out HZ1.out HL1.out).mono ?_); rintro e V1 ⟨rfl, hV⟩; have HQ1 := Lib.hid (HQe.out.below hV HQe.out.lt); have HR1 := Lib.hid (HRe.out.below hV HRe.out.lt); obtain ⟨s0, s1, _, _⟩ := HQ1.out.cells; obtain ⟨t0, t1, _, _⟩ := HR1.out.cells; have HRD1 := Lib.hid (HRDe.out.below hV); have HBV := Lib.hid (HBWe.out.trans (hV.mono HBWe.out.size)); clear hV)
            | (go_at_call 115; (with_reducible refine (rWrite_any na _ ra rcap _ rs rfl HRD1.out HZ2.out HL2.out).mono ?_); rintro e V2 ⟨rfl, hV⟩; obtain ⟨s0', s1', _, _⟩ := (HQ1.out.below hV HQ1.out.lt).cells; obtain ⟨t0', t1', _, _⟩ := (HR1.out.below hV HR1.out.lt).cells; have HBV2 := Lib.hid (HBV.out.trans (hV.mono HBV.out.size)); clear hV))
        go_wp2_with fail
        go_ret3
        exact ⟨by rw [HV1.out, HV2.out]; rfl, HBV2.out⟩

theorem rDiv_any (a b : ByteArray) (w : World) (ha : a.size ≤ 1000) (hb : b.size ≤ 1000) (h0 : vS b ≠ 0) :
    Calls Tryz.prog 175 #[.string a, .string b] w (DivPost w (vS a) (vS b)) := by
  rcases shortV_ways a with hsa | hsa
  · rcases shortV_ways b with hsb | hsb
    · exact rDiv_short a b w ha hb _ _ hsa hsb h0
    · exact rDiv_long1 a b w ha hb h0 _ _ hsa hsb
  · rcases shortV_ways b with hsb | hsb
    · exact rDiv_long2 a b w ha hb h0 _ _ hsa hsb (by rw [beq_eq_false_iff_ne]; exact h0)
    · exact rDiv_long0 a b w ha hb h0 _ _ hsa hsb


end Go.Proofs.YtahnkmkmoalbhaaGreatDoor
