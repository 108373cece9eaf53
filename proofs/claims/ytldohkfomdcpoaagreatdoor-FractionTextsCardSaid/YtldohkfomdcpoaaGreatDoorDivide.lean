/- integer.divide: the walk. -/
import Derived.Test.YtldohkfomdcpoaaGreatDoorReduce
import Derived.Test.YtldohkfomdcpoaaGreatDoorLong
namespace Go.Proofs.YtldohkfomdcpoaaGreatDoor
open Go.RowKit
open Num (put)

/-- what divide leaves: quotient (perhaps nil) and remainder -/
def Divided (w : World) (xs ys : List Int) (e : Ending) (w' : World) : Prop :=
  ∃ qs rs qa qcap rb ro rcap, e = .returned (.tuple #[.slice qa qs.length qcap, .slice (some ⟨rb, ro, none⟩) rs.length rcap]) ∧ Num.Can qs ∧ Num.Can rs ∧
    Num.gval xs = Num.gval qs * Num.gval ys + Num.gval rs ∧ Num.gval rs < Num.gval ys ∧
    (0 < qs.length → ∃ b o, qa = some ⟨b, o, none⟩ ∧ Sl w' b o qcap qs) ∧ Sl w' rb ro rcap rs ∧ qs.length ≤ xs.length ∧ rs.length ≤ xs.length + 1 ∧ Below w.heap.size w w'

set_option maxRecDepth 100000 in
set_option maxHeartbeats 1000000 in
theorem divide_less (w : World) (b o cap ob oy capy n m : Nat) (xs ys : List Int) (hn : xs.length = n) (hm : ys.length = m) (hx : Sl w b o cap xs) (hy : Sl w ob oy capy ys) (cx : Num.Can xs) (cy : Num.Can ys)
    (hlt : Num.gval xs < Num.gval ys) :
    Calls Tryz.prog 81 #[.slice (some ⟨b, o, none⟩) n cap, .slice (some ⟨ob, oy, none⟩) m capy] w (Divided w xs ys) := by
  have hc := cmp3_lt hlt
  have HN := Lib.hid hn
  have HM := Lib.hid hm
  have HC := Lib.hid hc
  clear hn hm hc
  go_enter Tryz.func81, Tryz.ntmps81
  go_wp2_with fail
  refine (compareGroups_any w b o cap ob oy capy n m xs ys HN.out HM.out hx hy cx cy).mono ?_
  rintro e w1 ⟨rfl, k, rfl⟩
  rw [HC.out]
  go_wp2_with fail
  go_ret2
  exact ⟨[], xs, none, 0, b, o, cap, by rw [HN.out]; rfl, Num.Can.nil, cx, by simp [Num.gval], hlt, fun h => by simp at h, hx.drewN k, by simp, by omega, below_drewN (Below.refl _ _) k⟩

theorem one_sl (w : World) (z : Int) : Sl (w.alloc (.cells #[.int .i64 z] 3)) w.heap.size 0 1 [z] := by
  have h : Row (w.alloc (.cells #[.int .i64 z] 3)) w.heap.size [z] := by unfold Row; rw [heap_alloc_new]; rfl
  exact h.sl (Nat.le_refl _) (by omega)

/-- what multiplying by one group leaves -/
def Times (w : World) (xs : List Int) (F : Int) (l : Nat) (e : Ending) (w' : World) : Prop :=
  ∃ bz Z, e = .returned (.slice (some ⟨bz, 0, none⟩) l l) ∧ w.heap.size ≤ bz ∧ Row w' bz Z ∧ Z.length = l ∧ Num.Norm Z ∧ Num.gval Z = Num.gval xs * F ∧ Below w.heap.size w w'

theorem times_any (w : World) (b o cap g n : Nat) (F : Int) (xs : List Int) (hn : xs.length = n) (hx : Sl w b o cap xs) (hg : Sl w g 0 1 [F]) (cx : Num.Norm xs) (hF : 1 ≤ F ∧ F ≤ 500000000) (hlim : n ≤ 1000000000) :
    Calls Tryz.prog 104 #[.slice (some ⟨b, o, none⟩) n cap, .slice (some ⟨g, 0, none⟩) 1 1] w (Times w xs F (n + 1)) := by
  refine (multiply_any w b o cap g 0 1 n 1 xs [F] hn rfl hx hg cx (Num.Norm.one (by omega) (by unfold Num.B; omega)) (by omega)).mono ?_
  rintro e w' ⟨Z, rfl, h1, h2, h3, h4, h5⟩
  rw [hn] at h2 ⊢
  exact ⟨w.heap.size, Z, rfl, Nat.le_refl _, h1, h2, h3, by rw [h4, Num.gval_one], h5⟩

set_option maxRecDepth 100000 in
set_option maxHeartbeats 2000000 in
theorem divide_more (w : World) (b o cap ob oy capy n m t : Nat) (xs ys : List Int) (hn : xs.length = n) (hm : ys.length = m) (hmt : m = t + 1) (hx : Sl w b o cap xs) (hy : Sl w ob oy capy ys) (cx : Num.Can xs) (cy : Num.Can ys)
    (hge : ¬ Num.gval xs < Num.gval ys) (hlim : n ≤ 999999990) :
    Calls Tryz.prog 81 #[.slice (some ⟨b, o, none⟩) n cap, .slice (some ⟨ob, oy, none⟩) m capy] w (Divided w xs ys) := by
  subst hmt
  have hnm : t + 1 ≤ n := by
    by_cases h : n < t + 1
    · exact absurd (Num.gval_lt_of_length cx cy (by omega)) hge
    · omega
  have hc : ¬ cmp3 (Num.gval xs) (Num.gval ys) < 0 := by
    unfold cmp3; rw [if_neg hge]; split <;> omega
  obtain ⟨c, hcc⟩ : ∃ c, c = cmp3 (Num.gval xs) (Num.gval ys) := ⟨_, rfl⟩
  rw [← hcc] at hc
  obtain ⟨d, hd⟩ : ∃ d, d = ys.getD t 0 := ⟨_, rfl⟩
  have cd : w.cell? ⟨ob, oy + t, none⟩ = some (.int .i64 d) := by rw [hd]; exact hy.cell t (by omega)
  have hd0 : 0 < d := by rw [hd]; exact cy.last_pos hm
  have hd1 : d < 1000000000 := by rw [hd]; exact (cy.1.getD t).2
  obtain ⟨F, hF⟩ : ∃ F, 1000000000 / (d + 1) = F := ⟨_, rfl⟩
  obtain ⟨DD, hDD⟩ : ∃ DD, DD = Num.groups (Num.gval ys * F) := ⟨_, rfl⟩
  have hYpos := Num.gval_pos cy (by rintro rfl; simp at hm)
  have hF0 : 0 ≤ F := by rw [← hF]; exact Int.ediv_nonneg (by omega) (by omega)
  have hDg : Num.gval DD = Num.gval ys * F := by rw [hDD]; exact Num.gval_groups (Int.mul_nonneg (by omega) hF0)
  have hDc : Num.Can DD := by rw [hDD]; exact Num.Can.groups _
  have hsc := Num.scaled_length cy hm (by rw [← hd]; exact hF.symm) hDc hDg
  have hF1 := hsc.2
  have HN := Lib.hid hn
  have HM := Lib.hid hm
  have HC := Lib.hid hcc
  have HD := Lib.hid hd
  have HDg := Lib.hid hDg
  have HDl := Lib.hid hsc.1
  clear hn hm hcc hd hDD hDg hsc
  go_enter Tryz.func81, Tryz.ntmps81
  go_wp2_with fail
  refine (compareGroups_any w b o cap ob oy capy n (t + 1) xs ys HN.out HM.out hx hy cx cy).mono ?_
  rintro e w1 ⟨rfl, k, rfl⟩
  rw [← HC.out]
  go_wp2_with fail
  rw [hF]
  have HF := Lib.hid hF
  clear hF
  obtain ⟨W1, hW1⟩ : ∃ W1, W1 = (w.drewN k).alloc (.cells #[.int .i64 F] 3) := ⟨_, rfl⟩
  have hB1 : Below w.heap.size w W1 := by rw [hW1]; exact (below_drewN (Below.refl _ _) k).alloc (Nat.le_refl _) _
  have hs1 : Sl W1 w.heap.size 0 1 [F] := by rw [hW1]; exact one_sl (w.drewN k) F
  rw [← hW1]
  clear hW1
  refine (times_any W1 b o cap w.heap.size n F xs HN.out (hx.below hB1 hx.lt) hs1 cx.1 hF1 (by omega)).mono ?_
  rintro e W2 ⟨bz, Z, rfl, hbz, hrow, hzl, hzn, hzg, hB2⟩
  have hB2 : Below w.heap.size w W2 := hB1.trans (hB2.mono hB1.size)
  have hbz1 : w.heap.size ≤ bz := Nat.le_trans hB1.size hbz
  have HZL := Lib.hid hzl
  have HZG := Lib.hid hzg
  have HR := Lib.hid hrow
  clear hs1 hB1 hzl hzg hrow hbz
  go_wp2_with fail
  obtain ⟨W3, hW3⟩ : ∃ W3, W3 = W2.alloc (.cells #[.int .i64 F] 3) := ⟨_, rfl⟩
  have hB3 : Below W2.heap.size W2 W3 := by rw [hW3]; exact (Below.refl _ _).alloc (Nat.le_refl _) _
  have hs3 : Sl W3 W2.heap.size 0 1 [F] := by rw [hW3]; exact one_sl W2 F
  rw [← hW3]
  clear hW3
  refine (times_any W3 ob oy capy W2.heap.size (t + 1) F ys HM.out ((hy.below hB2 hy.lt).below hB3 (Nat.lt_of_lt_of_le hy.lt hB2.size)) hs3 cy.1 hF1 (by omega)).mono ?_
  rintro e W4 ⟨bd, ZD, rfl, hbd, hrowd, hzdl, hzdn, hzdg, hB4⟩
  have hB42 : Below W2.heap.size W2 W4 := hB3.trans (hB4.mono hB3.size)
  have hB : Below w.heap.size w W4 := hB2.trans (hB42.mono hB2.size)
  have hrz : Row W4 bz Z := HR.out.below hB42 HR.out.lt
  have hzd : bz < bd := by have := HR.out.lt; have := hB3.size; omega
  have htr : Num.trimmed ZD = DD := Num.gval_inj (Num.Can.trimmed hzdn) hDc (by rw [Num.gval_trimmed, hzdg, HDg.out])
  have hpre : DD <+: ZD := by rw [← htr]; exact Num.trimmed_prefix ZD
  have hsd : Sl W4 bd 0 (t + 1 + 1) DD := hrowd.prefix hpre (by rw [HDl.out]; omega) (by omega)
  have hsz : Sl W4 bd 0 (t + 1 + 1) ZD := hrowd.sl (by omega) (by omega)
  have HTR := Lib.hid htr
  have HZDL := Lib.hid hzdl
  have HRZ := Lib.hid hrz
  clear htr hpre hzdl hrz hzdg hzdn hrowd hB42 hB4 hB3 hs3 HR hB2
  go_wp2_with fail
  refine (trim_any W4 bd 0 (t + 1 + 1) (t + 1 + 1) ZD HZDL.out hsz).mono ?_
  rintro e W5 ⟨rfl, rfl⟩
  rw [HTR.out, HDl.out]
  have hmk := run_makeInts (n - t) (by omega)
  rw [show ((n - t : Nat) : Int) = (n : Int) - (t + 1) + 1 by omega] at hmk
  clear hsz
  go_wp2_with fail
  obtain ⟨qb, hqb⟩ : ∃ qb, qb = W4.heap.size := ⟨_, rfl⟩
  have hqz : bz < qb := by rw [hqb]; exact HRZ.out.lt
  have hqd : bd < qb := by rw [hqb]; exact hsd.lt
  have hqw : w.heap.size ≤ qb := by rw [hqb]; exact hB.size
  have hdw : w.heap.size ≤ bd := by omega
  have hstart := Num.DivInv.start cx.1 HN.out cy HM.out hnm hF1.1 HDg.out hzn HZL.out HZG.out
  have hQ0 : Row (W4.alloc (zeroRow (n - t))) qb (List.replicate (n - t) 0) := by rw [hqb]; exact Row.made W4 _
  have hZ0 : Row (W4.alloc (zeroRow (n - t))) bz Z := HRZ.out.alloc _
  have hD0 : Sl (W4.alloc (zeroRow (n - t))) bd 0 (t + 1 + 1) DD := hsd.alloc _
  have hB0 : Below w.heap.size w (W4.alloc (zeroRow (n - t))) := hB.alloc hB.size _
  rw [← hqb]
  have HS := Lib.hid (And.intro hstart (And.intro hQ0 (And.intro hZ0 (And.intro hD0 hB0))))
  clear hstart hQ0 hZ0 hD0 hB0 hmk hsd HRZ hqb
  go_loopw [10] (fun iv wr => ∃ (k : Nat) (Z Q : List Int), k ≤ n - t ∧ iv = .int .i64 ((k : Int) - 1) ∧ Num.DivInv (Num.gval xs * F) DD n t k Z Q ∧ Row wr qb Q ∧ Row wr bz Z ∧ Sl wr bd 0 (t + 1 + 1) DD ∧ Below w.heap.size w wr) (fun iv _ => (intOf iv + 1).toNat)
  case atStart => exact ⟨n - t, Z, _, Nat.le_refl _, rfl, HS.out.1, HS.out.2.1, HS.out.2.2.1, HS.out.2.2.2.1, HS.out.2.2.2.2⟩
  case round =>
    clear HS hB
    obtain ⟨k, Z, Q, hk, rfl, hinv, hrq, hrz, hsd, hB⟩ := hrel
    have HI := Lib.hid hinv
    have HRQ := Lib.hid hrq
    have HRZ := Lib.hid hrz
    have HSD := Lib.hid hsd
    have HB := Lib.hid hB
    clear hinv hrq hrz hsd hB
    by_cases h0 : k = 0
    · subst h0
      obtain ⟨rs, hrc, hrg, hrx, hrl⟩ := HI.out.done HDg.out hF1.1
      have htq := HRQ.out.prefix (Num.trimmed_prefix Q) (cap := n - t) (by have := (Num.trimmed_prefix Q).length_le; have := HI.out.qlen; omega) (by omega)
      have hlq := HI.out.qlen
      have hlz := HI.out.zlen
      have hrsl : rs.length ≤ n := by
        by_cases hh : ys.length < rs.length
        · have := Num.gval_lt_of_length cy hrc hh; omega
        · have := HM.out; omega
      have hqsl : (Num.trimmed Q).length ≤ n := by have := (Num.trimmed_prefix Q).length_le; omega
      have HX := Lib.hid (And.intro hrc (And.intro hrg (And.intro hrx (And.intro hrl (And.intro htq (And.intro hlq (And.intro hlz (And.intro hrsl hqsl))))))))
      clear hrc hrg hrx hrl htq hlq hlz hrsl hqsl
      go_wp2_with fail
      refine (trim_any wr qb 0 (n - t) (n - t) Q HX.out.2.2.2.2.2.1 (HRQ.out.sl (by rw [HX.out.2.2.2.2.2.1]; omega) (by omega))).mono ?_
      rintro e W7 ⟨rfl, rfl⟩
      go_wp2_with fail
      refine (shrink_any F wr bz 0 (n + 1) (n + 1) Z rs HX.out.2.2.2.2.2.2.1 (HRZ.out.sl (by rw [HX.out.2.2.2.2.2.2.1]; omega) (by omega)) HI.out.znorm (by omega) HX.out.1 HX.out.2.1 (by omega)).mono ?_
      rintro e W8 ⟨br, rcap, rfl, hsr, hbr, hB8⟩
      go_wp2_with fail
      go_ret2
      exact ⟨Num.trimmed Q, rs, some ⟨qb, 0, none⟩, n - t, br, 0, rcap, rfl, Num.Can.trimmed HI.out.qnorm, HX.out.1, HX.out.2.2.1, HX.out.2.2.2.1, fun _ => ⟨qb, 0, rfl, HX.out.2.2.2.2.1.below hB8 HRQ.out.lt⟩, hsr, by rw [HN.out]; exact HX.out.2.2.2.2.2.2.2.2, by rw [HN.out]; have := HX.out.2.2.2.2.2.2.2.1; omega, HB.out.trans (hB8.mono HB.out.size)⟩
    · obtain ⟨j, rfl⟩ : ∃ j, k = j + 1 := ⟨k - 1, by omega⟩
      rw [show ((j + 1 : Nat) : Int) - 1 = (j : Int) by omega]
      have hzl := HI.out.zlen
      have hql := HI.out.qlen
      have HZl := Lib.hid hzl
      have HQl := Lib.hid hql
      clear hzl hql
      go_wp2_with fail
      rw [show j + (t + 1) + 1 - j = t + 2 by omega]
      refine (reduce_any wr bz j (t + 2) (n + 1 - j) bd 0 (t + 1 + 1) (t + 1) t Z DD rfl rfl HRZ.out HSD.out (by omega) (by have := HZl.out; omega) (by have := HZl.out; omega) HI.out.znorm hDc HDl.out (HI.out.seg_lt (by omega))).mono ?_
      rintro e w2 ⟨q, ws, rfl, hrow2, hwl, hwn, hq, hw, _, hlt2, hg2⟩
      have hstep := HI.out.step (by omega) hDc HDl.out hwl hwn hq hw hlt2
      have hrq2 : Row w2 qb Q := HRQ.out.grown hg2 (by simp; omega)
      have hsd2 : Sl w2 bd 0 (t + 1 + 1) DD := HSD.out.grown hg2 (by simp; omega)
      have hB2 : Below w.heap.size w w2 := below_of_grown HB.out hg2 hbz1
      have hf : w2.frozen? ⟨qb, j, none⟩ = false := hrq2.frozen j
      obtain ⟨v0, hv0⟩ : ∃ v0, w2.cell? ⟨qb, j, none⟩ = some (.int .i64 v0) := ⟨_, hrq2.cell (by have := HQl.out; omega)⟩
      have HST := Lib.hid hstep
      have HRQ2 := Lib.hid hrq2
      have HRZ2 := Lib.hid hrow2
      have HSD2 := Lib.hid hsd2
      have HB2 := Lib.hid hB2
      clear hstep hrq2 hsd2 hB2 hrow2 hg2 hq hw hwl hwn hlt2
      go_wp2_with fail
      go_roundw
      case rel => exact ⟨j, _, _, by omega, rfl, HST.out, HRQ2.out.set _ _, HRZ2.out.setOther (by simp; omega) _, HSD2.out.setOther (by simp; omega) _, HB2.out.setCell (p := ⟨qb, j, none⟩) hqw _⟩
      case measure => simp [intOf]

theorem divide_any (w : World) (b o cap ob oy capy n m : Nat) (xs ys : List Int) (hn : xs.length = n) (hm : ys.length = m) (hx : Sl w b o cap xs) (hy : Sl w ob oy capy ys) (cx : Num.Can xs) (cy : Num.Can ys)
    (h0 : m ≠ 0) (hlim : n ≤ 999999990) :
    Calls Tryz.prog 81 #[.slice (some ⟨b, o, none⟩) n cap, .slice (some ⟨ob, oy, none⟩) m capy] w (Divided w xs ys) := by
  by_cases hlt : Num.gval xs < Num.gval ys
  · exact divide_less w b o cap ob oy capy n m xs ys hn hm hx hy cx cy hlt
  · obtain ⟨t, rfl⟩ : ∃ t, m = t + 1 := ⟨m - 1, by omega⟩
    exact divide_more w b o cap ob oy capy n (t + 1) t xs ys hn hm rfl hx hy cx cy hlt hlim

end Go.Proofs.YtldohkfomdcpoaaGreatDoor
