/- integer.divide: the walk. -/
import Derived.Test.YtahnkmkmoalbhaaGreatDoorZBB
import Derived.Lib.AppendStr
import Derived.Lib.BufferRead
import Derived.Lib.ItoaLen
namespace Go.Proofs.YtahnkmkmoalbhaaGreatDoor
open Go.RowKit
open Num (put)

/-- what divide leaves: quotient (perhaps nil) and remainder -/
def Divided (w : World) (xs ys : List Int) (e : Ending) (w' : World) : Prop :=
  ∃ qs rs qa qcap rb ro rcap, e = .returned (.tuple #[.slice qa qs.length qcap, .slice (some ⟨rb, ro, none⟩) rs.length rcap]) ∧ Num.Can qs ∧ Num.Can rs ∧
    Num.gval xs = Num.gval qs * Num.gval ys + Num.gval rs ∧ Num.gval rs < Num.gval ys ∧
    (0 < qs.length → ∃ b o, qa = some ⟨b, o, none⟩ ∧ Sl w' b o qcap qs) ∧ Sl w' rb ro rcap rs ∧ qs.length ≤ xs.length ∧ rs.length ≤ xs.length + 1 ∧ Below w.heap.size w w'

set_option maxRecDepth 100000 in
set_option maxHeartbeats 1000000 in
theorem divide_less (w : World) (b o cap ob oy capy n m : Nat) (xs ys : List Int) (hn : xs.length = n) (hm : ys.length = m) (hx : Sl w b o cap xs) (hy : Sl w ob oy capy ys) (cx : Num.Can xs) (cy : Num.Can ys)
    (hlt : Num.gval xs < Num.gval ys) :
    Calls Tryz.prog 124 #[.slice (some ⟨b, o, none⟩) n cap, .slice (some ⟨ob, oy, none⟩) m capy] w (Divided w xs ys) := by
  have hc := cmp3_lt hlt
  have HN := Lib.hid hn
  have HM := Lib.hid hm
  have HC := Lib.hid hc
  clear hn hm hc
  go_enter Tryz.func124, Tryz.ntmps124
  go_wp2_with fail
  refine (compareGroups_any w b o cap ob oy capy n m xs ys HN.out HM.out hx hy cx cy).mono ?_
  rintro e w1 ⟨rfl, k, rfl⟩
  rw [HC.out]
  go_wp2_with fail
  go_ret2
  exact ⟨[], xs, none, 0, b, o, cap, by rw [HN.out]; rfl, Num.Can.nil, cx, by simp [Num.gval], hlt, fun h => by simp at h, hx.drewN k, by simp, by omega, below_drewN (Below.refl _ _) k⟩

theorem one_sl (w : World) (z : Int) : Sl (w.alloc (.cells #[.int .i64 z] 3)) w.heap.size 0 1 [z] := by
  have h : Row (w.alloc (.cells #[.int .i64 z] 3)) w.heap.size [z] := by unfold Row; rw [heap_alloc_new]; rfl
  exact h.sl (Nat.le_refl _) (by omega)

/-- what multiplying by one group leaves -/
def Times (w : World) (xs : List Int) (F : Int) (l : Nat) (e : Ending) (w' : World) : Prop :=
  ∃ bz Z, e = .returned (.slice (some ⟨bz, 0, none⟩) l l) ∧ w.heap.size ≤ bz ∧ Row w' bz Z ∧ Z.length = l ∧ Num.Norm Z ∧ Num.gval Z = Num.gval xs * F ∧ Below w.heap.size w w'

theorem times_any (w : World) (b o cap g n : Nat) (F : Int) (xs : List Int) (hn : xs.length = n) (hx : Sl w b o cap xs) (hg : Sl w g 0 1 [F]) (cx : Num.Norm xs) (hF : 1 ≤ F ∧ F ≤ 500000000) (hlim : n ≤ 1000000000) :
    Calls Tryz.prog 125 #[.slice (some ⟨b, o, none⟩) n cap, .slice (some ⟨g, 0, none⟩) 1 1] w (Times w xs F (n + 1)) := by
  refine (multiply_any w b o cap g 0 1 n 1 xs [F] hn rfl hx hg cx (Num.Norm.one (by omega) (by unfold Num.B; omega)) (by omega)).mono ?_
  rintro e w' ⟨Z, rfl, h1, h2, h3, h4, h5⟩
  rw [hn] at h2 ⊢
  exact ⟨w.heap.size, Z, rfl, Nat.le_refl _, h1, h2, h3, by rw [h4, Num.gval_one], h5⟩

set_option maxRecDepth 100000 in
set_option maxHeartbeats 2000000 in
theorem divide_more (w : World) (b o cap ob oy capy n m t : Nat) (xs ys : List Int) (hn : xs.length = n) (hm : ys.length = m) (hmt : m = t + 1) (hx : Sl w b o cap xs) (hy : Sl w ob oy capy ys) (cx : Num.Can xs) (cy : Num.Can ys)
    (hge : ¬ Num.gval xs < Num.gval ys) (hlim : n ≤ 999999990) :
    Calls Tryz.prog 124 #[.slice (some ⟨b, o, none⟩) n cap, .slice (some ⟨ob, oy, none⟩) m capy] w (Divided w xs ys) := by
  subst hmt
  have hnm : t + 1 ≤ n := by
    by_cases h : n < t + 1
    · exact absurd (Num.gval_lt_of_length cx cy (by omega)) hge
    · omega
  have hc : ¬ cmp3 (Num.gval xs) (Num.gval ys) < 0 := by
    unfold cmp3; rw [if_neg hge]; split <;> omega
  obtain ⟨c, hcc⟩ : ∃ c, c = cmp3 (Num.gval xs) (Num.gval ys) := ⟨_, rfl⟩
  rw [← hcc] at hc
  obtain ⟨d, hd⟩ : ∃ d, d = ys.getD t 0 := ⟨_, rfl⟩
  have cd : w.cell? ⟨ob, oy + t, none⟩ = some (.int .i64 d) := by rw [hd]; exact hy.cell t (by omega)
  have hd0 : 0 < d := by rw [hd]; exact cy.last_pos hm
  have hd1 : d < 1000000000 := by rw [hd]; exact (cy.1.getD t).2
  obtain ⟨F, hF⟩ : ∃ F, 1000000000 / (d + 1) = F := ⟨_, rfl⟩
  obtain ⟨DD, hDD⟩ : ∃ DD, DD = Num.groups (Num.gval ys * F) := ⟨_, rfl⟩
  have hYpos := Num.gval_pos cy (by rintro rfl; simp at hm)
  have hF0 : 0 ≤ F := by rw [← hF]; exact Int.ediv_nonneg (by omega) (by omega)
  have hDg : Num.gval DD = Num.gval ys * F := by rw [hDD]; exact Num.gval_groups (Int.mul_nonneg (by omega) hF0)
  have hDc : Num.Can DD := by rw [hDD]; exact Num.Can.groups _
  have hsc := Num.scaled_length cy hm (by rw [← hd]; exact hF.symm) hDc hDg
  have hF1 := hsc.2
  have HN := Lib.hid hn
  have HM := Lib.hid hm
  have HC := Lib.hid hcc
  have HD := Lib.hid hd
  have HDg := Lib.hid hDg
  have HDl := Lib.hid hsc.1
  clear hn hm hcc hd hDD hDg hsc
  go_enter Tryz.func124, Tryz.ntmps124
  go_wp2_with fail
  refine (compareGroups_any w b o cap ob oy capy n (t + 1) xs ys HN.out HM.out hx hy cx cy).mono ?_
  rintro e w1 ⟨rfl, k, rfl⟩
  rw [← HC.out]
  go_wp2_with fail
  rw [hF]
  have HF := Lib.hid hF
  clear hF
  obtain ⟨W1, hW1⟩ : ∃ W1, W1 = (w.drewN k).alloc (.cells #[.int .i64 F] 3) := ⟨_, rfl⟩
  have hB1 : Below w.heap.size w W1 := by rw [hW1]; exact (below_drewN (Below.refl _ _) k).alloc (Nat.le_refl _) _
  have hs1 : Sl W1 w.heap.size 0 1 [F] := by rw [hW1]; exact one_sl (w.drewN k) F
  rw [← hW1]
  clear hW1
  refine (times_any W1 b o cap w.heap.size n F xs HN.out (hx.below hB1 hx.lt) hs1 cx.1 hF1 (by omega)).mono ?_
  rintro e W2 ⟨bz, Z, rfl, hbz, hrow, hzl, hzn, hzg, hB2⟩
  have hB2 : Below w.heap.size w W2 := hB1.trans (hB2.mono hB1.size)
  have hbz1 : w.heap.size ≤ bz := Nat.le_trans hB1.size hbz
  have HZL := Lib.hid hzl
  have HZG := Lib.hid hzg
  have HR := Lib.hid hrow
  clear hs1 hB1 hzl hzg hrow hbz
  go_wp2_with fail
  obtain ⟨W3, hW3⟩ : ∃ W3, W3 = W2.alloc (.cells #[.int .i64 F] 3) := ⟨_, rfl⟩
  have hB3 : Below W2.heap.size W2 W3 := by rw [hW3]; exact (Below.refl _ _).alloc (Nat.le_refl _) _
  have hs3 : Sl W3 W2.heap.size 0 1 [F] := by rw [hW3]; exact one_sl W2 F
  rw [← hW3]
  clear hW3
  refine (times_any W3 ob oy capy W2.heap.size (t + 1) F ys HM.out ((hy.below hB2 hy.lt).below hB3 (Nat.lt_of_lt_of_le hy.lt hB2.size)) hs3 cy.1 hF1 (by omega)).mono ?_
  rintro e W4 ⟨bd, ZD, rfl, hbd, hrowd, hzdl, hzdn, hzdg, hB4⟩
  have hB42 : Below W2.heap.size W2 W4 := hB3.trans (hB4.mono hB3.size)
  have hB : Below w.heap.size w W4 := hB2.trans (hB42.mono hB2.size)
  have hrz : Row W4 bz Z := HR.out.below hB42 HR.out.lt
  have hzd : bz < bd := by have := HR.out.lt; have := hB3.size; omega
  have htr : Num.trimmed ZD = DD := Num.gval_inj (Num.Can.trimmed hzdn) hDc (by rw [Num.gval_trimmed, hzdg, HDg.out])
  have hpre : DD <+: ZD := by rw [← htr]; exact Num.trimmed_prefix ZD
  have hsd : Sl W4 bd 0 (t + 1 + 1) DD := hrowd.prefix hpre (by rw [HDl.out]; omega) (by omega)
  have hsz : Sl W4 bd 0 (t + 1 + 1) ZD := hrowd.sl (by omega) (by omega)
  have HTR := Lib.hid htr
  have HZDL := Lib.hid hzdl
  have HRZ := Lib.hid hrz
  clear htr hpre hzdl hrz hzdg hzdn hrowd hB42 hB4 hB3 hs3 HR hB2
  go_wp2_with fail
  refine (trim_any W4 bd 0 (t + 1 + 1) (t + 1 + 1) ZD HZDL.out hsz).mono ?_
  rintro e W5 ⟨rfl, rfl⟩
  rw [HTR.out, HDl.out]
  have hmk := run_makeInts (n - t) (by omega)
  rw [show ((n - t : Nat) : Int) = (n : Int) - (t + 1) + 1 by omega] at hmk
  clear hsz
  go_wp2_with fail
  obtain ⟨qb, hqb⟩ : ∃ qb, qb = W4.heap.size := ⟨_, rfl⟩
  have hqz : bz < qb := by rw [hqb]; exact HRZ.out.lt
  have hqd : bd < qb := by rw [hqb]; exact hsd.lt
  have hqw : w.heap.size ≤ qb := by rw [hqb]; exact hB.size
  have hdw : w.heap.size ≤ bd := by omega
  have hstart := Num.DivInv.start cx.1 HN.out cy HM.out hnm hF1.1 HDg.out hzn HZL.out HZG.out
  have hQ0 : Row (W4.alloc (zeroRow (n - t))) qb (List.replicate (n - t) 0) := by rw [hqb]; exact Row.made W4 _
  have hZ0 : Row (W4.alloc (zeroRow (n - t))) bz Z := HRZ.out.alloc _
  have hD0 : Sl (W4.alloc (zeroRow (n - t))) bd 0 (t + 1 + 1) DD := hsd.alloc _
  have hB0 : Below w.heap.size w (W4.alloc (zeroRow (n - t))) := hB.alloc hB.size _
  rw [← hqb]
  have HS := Lib.hid (And.intro hstart (And.intro hQ0 (And.intro hZ0 (And.intro hD0 hB0))))
  clear hstart hQ0 hZ0 hD0 hB0 hmk hsd HRZ hqb
  go_loopw [10] (fun iv wr => ∃ (k : Nat) (Z Q : List Int), k ≤ n - t ∧ iv = .int .i64 ((k : Int) - 1) ∧ Num.DivInv (Num.gval xs * F) DD n t k Z Q ∧ Row wr qb Q ∧ Row wr bz Z ∧ Sl wr bd 0 (t + 1 + 1) DD ∧ Below w.heap.size w wr) (fun iv _ => (intOf iv + 1).toNat)
  case atStart => exact ⟨n - t, Z, _, Nat.le_refl _, rfl, HS.out.1, HS.out.2.1, HS.out.2.2.1, HS.out.2.2.2.1, HS.out.2.2.2.2⟩
  case round =>
    clear HS hB
    obtain ⟨k, Z, Q, hk, rfl, hinv, hrq, hrz, hsd, hB⟩ := hrel
    have HI := Lib.hid hinv
    have HRQ := Lib.hid hrq
    have HRZ := Lib.hid hrz
    have HSD := Lib.hid hsd
    have HB := Lib.hid hB
    clear hinv hrq hrz hsd hB
    by_cases h0 : k = 0
    · subst h0
      obtain ⟨rs, hrc, hrg, hrx, hrl⟩ := HI.out.done HDg.out hF1.1
      have htq := HRQ.out.prefix (Num.trimmed_prefix Q) (cap := n - t) (by have := (Num.trimmed_prefix Q).length_le; have := HI.out.qlen; omega) (by omega)
      have hlq := HI.out.qlen
      have hlz := HI.out.zlen
      have hrsl : rs.length ≤ n := by
        by_cases hh : ys.length < rs.length
        · have := Num.gval_lt_of_length cy hrc hh; omega
        · have := HM.out; omega
      have hqsl : (Num.trimmed Q).length ≤ n := by have := (Num.trimmed_prefix Q).length_le; omega
      have HX := Lib.hid (And.intro hrc (And.intro hrg (And.intro hrx (And.intro hrl (And.intro htq (And.intro hlq (And.intro hlz (And.intro hrsl hqsl))))))))
      clear hrc hrg hrx hrl htq hlq hlz hrsl hqsl
      go_wp2_with fail
      refine (trim_any wr qb 0 (n - t) (n - t) Q HX.out.2.2.2.2.2.1 (HRQ.out.sl (by rw [HX.out.2.2.2.2.2.1]; omega) (by omega))).mono ?_
      rintro e W7 ⟨rfl, rfl⟩
      go_wp2_with fail
      refine (shrink_any F wr bz 0 (n + 1) (n + 1) Z rs HX.out.2.2.2.2.2.2.1 (HRZ.out.sl (by rw [HX.out.2.2.2.2.2.2.1]; omega) (by omega)) HI.out.znorm (by omega) HX.out.1 HX.out.2.1 (by omega)).mono ?_
      rintro e W8 ⟨br, rcap, rfl, hsr, hbr, hB8⟩
      go_wp2_with fail
      go_ret2
      exact ⟨Num.trimmed Q, rs, some ⟨qb, 0, none⟩, n - t, br, 0, rcap, rfl, Num.Can.trimmed HI.out.qnorm, HX.out.1, HX.out.2.2.1, HX.out.2.2.2.1, fun _ => ⟨qb, 0, rfl, HX.out.2.2.2.2.1.below hB8 HRQ.out.lt⟩, hsr, by rw [HN.out]; exact HX.out.2.2.2.2.2.2.2.2, by rw [HN.out]; have := HX.out.2.2.2.2.2.2.2.1; omega, HB.out.trans (hB8.mono HB.out.size)⟩
    · obtain ⟨j, rfl⟩ : ∃ j, k = j + 1 := ⟨k - 1, by omega⟩
      rw [show ((j + 1 : Nat) : Int) - 1 = (j : Int) by omega]
      have hzl := HI.out.zlen
      have hql := HI.out.qlen
      have HZl := Lib.hid hzl
      have HQl := Lib.hid hql
      clear hzl hql
      go_wp2_with fail
      rw [show j + (t + 1) + 1 - j = t + 2 by omega]
      refine (reduce_any wr bz j (t + 2) (n + 1 - j) bd 0 (t + 1 + 1) (t + 1) t Z DD rfl rfl HRZ.out HSD.out (by omega) (by have := HZl.out; omega) (by have := HZl.out; omega) HI.out.znorm hDc HDl.out (HI.out.seg_lt (by omega))).mono ?_
      rintro e w2 ⟨q, ws, rfl, hrow2, hwl, hwn, hq, hw, _, hlt2, hg2⟩
      have hstep := HI.out.step (by omega) hDc HDl.out hwl hwn hq hw hlt2
      have hrq2 : Row w2 qb Q := HRQ.out.grown hg2 (by simp; omega)
      have hsd2 : Sl w2 bd 0 (t + 1 + 1) DD := HSD.out.grown hg2 (by simp; omega)
      have hB2 : Below w.heap.size w w2 := below_of_grown HB.out hg2 hbz1
      have hf : w2.frozen? ⟨qb, j, none⟩ = false := hrq2.frozen j
      obtain ⟨v0, hv0⟩ : ∃ v0, w2.cell? ⟨qb, j, none⟩ = some (.int .i64 v0) := ⟨_, hrq2.cell (by have := HQl.out; omega)⟩
      have HST := Lib.hid hstep
      have HRQ2 := Lib.hid hrq2
      have HRZ2 := Lib.hid hrow2
      have HSD2 := Lib.hid hsd2
      have HB2 := Lib.hid hB2
      clear hstep hrq2 hsd2 hB2 hrow2 hg2 hq hw hwl hwn hlt2
      go_wp2_with fail
      go_roundw
      case rel => exact ⟨j, _, _, by omega, rfl, HST.out, HRQ2.out.set _ _, HRZ2.out.setOther (by simp; omega) _, HSD2.out.setOther (by simp; omega) _, HB2.out.setCell (p := ⟨qb, j, none⟩) hqw _⟩
      case measure => simp [intOf]

theorem divide_any (w : World) (b o cap ob oy capy n m : Nat) (xs ys : List Int) (hn : xs.length = n) (hm : ys.length = m) (hx : Sl w b o cap xs) (hy : Sl w ob oy capy ys) (cx : Num.Can xs) (cy : Num.Can ys)
    (h0 : m ≠ 0) (hlim : n ≤ 999999990) :
    Calls Tryz.prog 124 #[.slice (some ⟨b, o, none⟩) n cap, .slice (some ⟨ob, oy, none⟩) m capy] w (Divided w xs ys) := by
  by_cases hlt : Num.gval xs < Num.gval ys
  · exact divide_less w b o cap ob oy capy n m xs ys hn hm hx hy cx cy hlt
  · obtain ⟨t, rfl⟩ : ∃ t, m = t + 1 := ⟨m - 1, by omega⟩
    exact divide_more w b o cap ob oy capy n (t + 1) t xs ys hn hm rfl hx hy cx cy hlt hlim

end Go.Proofs.YtahnkmkmoalbhaaGreatDoor

/- integer.read: the walk. -/
namespace Go.Proofs.YtahnkmkmoalbhaaGreatDoor
open Go.RowKit

/-- the groups of the value of a string -/
def gS (s : ByteArray) : List Int := Num.grps (Num.sdig s.data.toList)
theorem gS_can (s : ByteArray) : Num.Can (gS s) := Num.Can.grps (Num.Plain.sdig _)
theorem gS_val (s : ByteArray) : Num.gval (gS s) = (vS s).natAbs := by
  unfold gS vS; rw [Num.gval_grps, Num.natAbs_val]; rfl

/-- a row while it is filled: the groups ahead of i, v, and zeros -/
def rowAt (G : List Int) (i : Nat) (v : Int) : List Int := G.take i ++ v :: List.replicate (G.length - i - 1) 0

theorem rowAt_zero (G : List Int) (i : Nat) (h : i < G.length) : G.take i ++ List.replicate (G.length - i) 0 = rowAt G i 0 := by
  unfold rowAt
  rw [show G.length - i = G.length - i - 1 + 1 by omega, List.replicate_succ]; rfl
theorem rowAt_length (G : List Int) (i : Nat) (v : Int) (h : i < G.length) : (rowAt G i v).length = G.length := by
  simp [rowAt]; omega
theorem rowAt_set (G : List Int) (i : Nat) (v u : Int) (h : i < G.length) : (rowAt G i v).set i u = rowAt G i u := by
  unfold rowAt
  rw [List.set_append_right _ _ (by simp; omega), show i - (List.take i G).length = 0 by simp; omega]; rfl
theorem rowAt_getD (G : List Int) (i : Nat) (v : Int) (h : i < G.length) : (rowAt G i v).getD i 0 = v := by
  unfold rowAt
  simp only [List.getD_eq_getElem?_getD]
  rw [List.getElem?_append_right (by simp; omega), show i - (List.take i G).length = 0 by simp; omega]; rfl
theorem rowAt_done (G : List Int) (i : Nat) (h : i < G.length) : rowAt G i (G.getD i 0) = G.take (i + 1) ++ List.replicate (G.length - (i + 1)) 0 := by
  unfold rowAt
  rw [List.take_succ_eq_append_getElem h, List.append_assoc]
  simp [List.getD, h, Nat.sub_sub]

/-- the digits from st on, up to j -/
def span (d : List UInt8) (st j : Nat) : List UInt8 := (d.take j).drop st
theorem span_succ {d : List UInt8} {st j : Nat} (h1 : st ≤ j) (h2 : j < d.length) : span d st (j + 1) = span d st j ++ [d[j]] := by
  unfold span
  rw [List.take_succ_eq_append_getElem h2, List.drop_append_of_le_length (by simp; omega)]
theorem span_nil (d : List UInt8) (st : Nat) : span d st st = [] := by
  unfold span; rw [List.drop_of_length_le (by simp; omega)]
theorem span_small {d : List UInt8} (h : d.all Num.isDig = true) {st j : Nat} (hj : j < st + 9) : Num.num (span d st j) < 100000000 := by
  have ha : (span d st j).all Num.isDig = true := by
    rw [List.all_eq_true] at *
    intro c hc
    exact h c (List.mem_of_mem_take (List.mem_of_mem_drop hc))
  have h1 := Num.num_lt _ ha
  have h2 : (span d st j).length ≤ 8 := by simp [span]; omega
  have := Nat.pow_le_pow_right (show 1 ≤ 10 by decide) h2
  omega

/-- what read leaves -/
def ReadPost (w : World) (s : ByteArray) (e : Ending) (w' : World) : Prop :=
  ∃ b cap, e = .returned (.tuple #[.bool (Num.sneg s.data.toList), .slice (some ⟨b, 0, none⟩) (gS s).length cap]) ∧ Sl w' b 0 cap (gS s) ∧ w.heap.size ≤ b ∧ Below w.heap.size w w'

set_option maxRecDepth 100000 in
set_option maxHeartbeats 2000000 in
theorem read_any (s : ByteArray) (w : World) (hs : s.size ≤ 4294967296) :
    Calls Tryz.prog 67 #[.string s] w (ReadPost w s) := by
  have hm := lim_max hs
  obtain ⟨D, hD⟩ : ∃ D : ByteArray, ByteArray.mk (Num.sdig s.data.toList).toArray = D := ⟨_, rfl⟩
  have hDl : D.data.toList = Num.sdig s.data.toList := by rw [← hD]
  have hdl : D.size ≤ 4294967296 := by
    have := Num.sdig_length s.data.toList
    rw [← hDl, size_toList, size_toList] at this; omega
  have hall : D.data.toList.all Num.isDig = true := by rw [hDl]; exact (Num.Plain.sdig _).1
  have hG : gS s = Num.grps D.data.toList := by unfold gS; rw [hDl]
  have hGl : (gS s).length = (D.size + 8) / 9 := by rw [hG, Num.grps_length, size_toList]
  obtain ⟨K, hK⟩ : ∃ K, K = (D.size + 8) / 9 := ⟨_, rfl⟩
  have hmk := run_makeInts K (by omega)
  rw [show (K : Int) = ((D.size : Int) + 9 - 1) / 9 by omega] at hmk
  have hKb : K ≤ 4294967296 ∧ K * 9 ≤ D.size + 8 := by omega
  obtain ⟨G, hGG⟩ : ∃ G, G = gS s := ⟨_, rfl⟩
  have HGG := Lib.hid hGG
  have HG := Lib.hid hG
  have HGl := Lib.hid hGl
  have HK := Lib.hid hK
  have HA := Lib.hid hall
  clear hDl hall hG hGl hK hGG
  go_enter Tryz.func67, Tryz.ntmps67
  go_wp2_with fail
  refine (split_any s _ hm).mono ?_
  rintro e w1 ⟨rfl, rfl⟩
  rw [hD]
  clear hD
  go_wp2_with fail
  have hGK : G.length = K := by rw [HGG.out, HGl.out, HK.out]
  have hst : Row (w.alloc (zeroRow K)) w.heap.size (G.take 0 ++ List.replicate (G.length - 0) 0) := by rw [hGK]; simpa using Row.made w K
  have HS := Lib.hid hst
  have HGK := Lib.hid hGK
  clear hst hGK hmk
  go_loopw [23] (fun iv wr => ∃ i : Nat, i ≤ K ∧ iv = .int .i64 i ∧ Row wr w.heap.size (G.take i ++ List.replicate (G.length - i) 0) ∧ Below w.heap.size w wr) (fun iv _ => K - (intOf iv).toNat)
  case atStart => exact ⟨0, Nat.zero_le _, rfl, HS.out, (Below.refl _ _).alloc (Nat.le_refl _) _⟩
  case round =>
    clear HS
    obtain ⟨i, hi, rfl, hrow, hB⟩ := hrel
    have HR := Lib.hid hrow
    have HB := Lib.hid hB
    clear hrow hB
    obtain ⟨wo, hwo⟩ : ∃ wo, wo = wr := ⟨_, rfl⟩
    by_cases hlt : i < K
    · obtain ⟨en, hen⟩ : ∃ en, en = D.size - 9 * i := ⟨_, rfl⟩
      obtain ⟨st, hst⟩ : ∃ st, st = D.size - 9 * (i + 1) := ⟨_, rfl⟩
      have hse : st ≤ en ∧ en ≤ st + 9 ∧ en ≤ D.size ∧ (en : Int) = (D.size : Int) - (i : Int) * 9 ∧ (st : Int) = max 0 ((D.size : Int) - (i : Int) * 9 - 9) := by omega
      have HE := Lib.hid hse
      have hse1 : st ≤ en ∧ en ≤ st + 9 ∧ en ≤ D.size := ⟨hse.1, hse.2.1, hse.2.2.1⟩
      have HEN := Lib.hid (And.intro hen hst)
      clear hen hst hse
      have hr0 : Row wr w.heap.size (rowAt G i (Num.num (span D.data.toList st st))) := by
        rw [span_nil]; have := HR.out; rw [rowAt_zero _ _ (by have := HGK.out; omega)] at this; exact this
      have HR0 := Lib.hid hr0
      clear hr0
      go_wp2_with fail
      go_loopw [9] (fun jv wq => ∃ j : Nat, st ≤ j ∧ j ≤ en ∧ jv = .int .i64 j ∧ Row wq w.heap.size (rowAt G i (Num.num (span D.data.toList st j))) ∧ Below w.heap.size w wq) (fun jv _ => en - (intOf jv).toNat)
      case atStart => exact ⟨st, Nat.le_refl _, hse1.1, by rw [HE.out.2.2.2.2], HR0.out, HB.out⟩
      case round =>
        clear HR0 HB HR
        obtain ⟨j, hj0, hj1, rfl, hrow, hB⟩ := hrel
        have hen := HE.out.2.2.2.1
        by_cases hj : j < en
        · have hjl : (j : Int) < (D.size : Int) - (i : Int) * 9 := by omega
          have hjD : j < D.size := by omega
          have hjD' : j < D.data.toList.length := by rw [size_toList]; exact hjD
          have hdig := (Num.isDig_iff (D.data.toList[j]'hjD')).1 (List.all_eq_true.1 HA.out _ (List.getElem_mem hjD'))
          have hby := byte_at D j hjD hjD'
          have hspan := span_succ (d := D.data.toList) hj0 hjD'
          have hcb : (48 : Int) ≤ ((D[j]'hjD).toNat : Int) ∧ ((D[j]'hjD).toNat : Int) ≤ 57 := by rw [← hby]; omega
          obtain ⟨v, hv⟩ : ∃ v : Int, v = (Num.num (span D.data.toList st j) : Int) := ⟨_, rfl⟩
          have hvb : 0 ≤ v ∧ v < 100000000 := by have := span_small HA.out (st := st) (j := j) (by omega); omega
          have hnext : ((Num.num (span D.data.toList st (j + 1)) : Nat) : Int) = v * 10 + (((D[j]'hjD).toNat : Int) - 48) := by
            rw [hspan, Num.num_snoc, hby, hv]; unfold Num.dv; omega
          have hf : wr.frozen? ⟨w.heap.size, i, none⟩ = false := hrow.frozen i
          have hc : wr.cell? ⟨w.heap.size, i, none⟩ = some (.int .i64 v) := by
            rw [hrow.cell (by rw [rowAt_length _ _ _ (by have := HGK.out; omega)]; have := HGK.out; omega), rowAt_getD _ _ _ (by have := HGK.out; omega), hv]
          have HR := Lib.hid hrow
          have HB := Lib.hid hB
          have HN := Lib.hid hnext
          clear hrow hB hnext hspan hby hdig hjD' hv hen
          go_wp2_with fail
          go_region
          go_wp2_with fail
          go_roundw
          case rel => exact ⟨j + 1, by omega, by omega, by go_num, by rw [HN.out, ← rowAt_set _ _ _ _ (by have := HGK.out; omega)]; exact HR.out.set _ _, (HB.out.setCell (p := ⟨w.heap.size, i, none⟩) (Nat.le_refl _) _).drew⟩
          case measure => simp [intOf]; omega
        · have hjl : ¬ (j : Int) < (D.size : Int) - (i : Int) * 9 := by omega
          have he : j = en := by omega
          have hrow2 : Row wr w.heap.size (G.take (i + 1) ++ List.replicate (G.length - (i + 1)) 0) := by
            rw [← rowAt_done _ _ (by have := HGK.out; omega)]
            have e : (Num.num (span D.data.toList st j) : Int) = G.getD i 0 := by
              have h1 := HEN.out
              rw [HGG.out, HG.out, he]
              have h2 : Num.grps D.data.toList = (List.range K).map fun i => (Num.num (Num.seg D.data.toList i) : Int) := by
                unfold Num.grps; rw [size_toList, HK.out]
              rw [h2]
              simp only [List.getD_eq_getElem?_getD]
              rw [List.getElem?_map, List.getElem?_range hlt]
              simp only [Option.map_some, Option.getD_some]
              unfold Num.seg span
              rw [size_toList, h1.1, h1.2]
            rw [← e]; exact hrow
          have HR := Lib.hid hrow2
          have HB := Lib.hid hB
          clear hrow hrow2 hB he hen
          go_wp2_with fail
          go_roundw
          case rel => exact ⟨i + 1, by omega, by go_num, HR.out, HB.out⟩
          case measure => simp [intOf]; omega
    · obtain rfl : i = K := by omega
      go_wp2_with fail
      go_ret2
      have hr := HR.out
      rw [List.take_of_length_le (by have := HGK.out; omega), show G.length - i = 0 by have := HGK.out; omega] at hr
      simp only [List.replicate_zero, List.append_nil] at hr
      refine ⟨w.heap.size, i, ?_, ?_, Nat.le_refl _, HB.out⟩
      · rw [HGl.out, ← HK.out]; rfl
      · rw [← HGG.out]; exact hr.sl (by have := HGK.out; omega) (by omega)
end Go.Proofs.YtahnkmkmoalbhaaGreatDoor

/- integer.write: the walk. -/
namespace Go.Proofs.YtahnkmkmoalbhaaGreatDoor
open Go.RowKit

theorem info_byte : (Tryz.prog.info? 5).map (fun i => (i.zero, i.size, i.bytes)) = some (some (.int .u8 0), 1, 1) := by kernel_rfl

/-- the slice value v owns the bytes l -/
def Txt (w : World) (base : Nat) (v : Value) (l : List UInt8) : Prop := w.ownsRow base 5 1 v l.length (Lib.byteCells l)

def byteRow (c : Nat) : Obj := .cells (madeCells #[.int .u8 0] c) 5
theorem run_makeBytes (c : Nat) (hc : c ≤ 140737488355328) (w : World) :
    (Instr.makeSlice 115 (.int .i64 0) (.int .i64 (c : Int))).run Tryz.prog w = .ok (.slice (some ⟨w.heap.size, 0, none⟩) 0 c) (w.alloc (byteRow c)) := by
  obtain ⟨i0, hi, hz0, hz1, hz2⟩ := info_parts info_byte
  have hr := run_make (P := Tryz.prog) w 115 5 i0 (.int .u8 0) Tryz.underlying115 hi hz0 .i64 .i64 0 c (by omega) (by omega) (by rw [hz2]; omega) (by omega)
  simp only [Int.toNat_natCast] at hr
  rw [hr, hz1]
  simp [byteRow, Value.cells]
theorem Txt.made (w : World) (c : Nat) (hc : c ≤ 140737488355328) {base : Nat} (hb : base ≤ w.heap.size) : Txt (w.alloc (byteRow c)) base (.slice (some ⟨w.heap.size, 0, none⟩) 0 c) [] :=
  World.ownsRow_made w _ c hb (by unfold maxLen; omega) (by simp [size_madeCells])

theorem Txt.kept {w w' : World} {base : Nat} {v : Value} {l : List UInt8} (h : Txt w base v l) (hb : Below w.heap.size w w') : Txt w' base v l := by
  refine World.ownsRow.kept h (grown_of_below hb none) ?_
  cases hv : v.ownBlock with
  | none => exact .inl rfl
  | some b => exact .inr (by simp)
theorem Txt.alloc {w : World} {base : Nat} {v : Value} {l : List UInt8} (h : Txt w base v l) (o : Obj) : Txt (w.alloc o) base v l := World.ownsRow.alloc h o

theorem strCells_eq (s : ByteArray) : Lib.strCells s = Lib.byteCells s.data.toList := rfl

theorem Txt.addString {w : World} {base : Nat} {v : Value} {l : List UInt8} (h : Txt w base v l) (s : ByteArray) (ty : TypeId) (hs : l.length + s.size ≤ 140737488355328) (hb : base ≤ w.heap.size) :
    ∃ v' w', (Builtin.append_ #[115, 9] ty #[v, .string s]).run Tryz.prog w = .ok v' w' ∧ Txt w' base v' (l ++ s.data.toList) ∧ Below base w w' := by
  obtain ⟨i0, hi, hz0, hz1, hz2⟩ := info_parts info_byte
  obtain ⟨v', w', h1, h2, h3, _⟩ := Lib.run_append_own_string (P := Tryz.prog) w base 115 9 ty 5 i0 Tryz.underlying115 Tryz.underlying9 hi hz0 hz1 hz2 v l.length _ h s (by unfold maxLen; omega) hs hb
  refine ⟨v', w', h1, ?_, (Below.refl base w).grown h3 hb (fun k hk => (World.ownsRow.lt h k hk).1)⟩
  unfold Txt
  rw [List.length_append, size_toList, Lib.byteCells_append, ← strCells_eq]
  exact h2

theorem Txt.addByte {w : World} {base : Nat} {v : Value} {l : List UInt8} (h : Txt w base v l) (c : UInt8) (g : Nat) (hg : w.cell? ⟨g, 0, none⟩ = some (.int .u8 c.toNat)) (ty : TypeId) (hs : l.length + 1 ≤ 140737488355328) (hb : base ≤ w.heap.size) :
    ∃ v' w', (Builtin.append_ #[115, 115] ty #[v, .slice (some ⟨g, 0, none⟩) 1 1]).run Tryz.prog w = .ok v' w' ∧ Txt w' base v' (l ++ [c]) ∧ Below base w w' := by
  obtain ⟨i0, hi, hz0, hz1, hz2⟩ := info_parts info_byte
  obtain ⟨v', w', h1, h2, h3, _⟩ := run_append_own (P := Tryz.prog) w base 115 ty 5 i0 (.int .u8 0) 1 1 Tryz.underlying115 hi hz0 hz1 hz2 rfl (by decide) v l.length _ h ⟨g, 0, none⟩ 1 1 [.int .u8 c.toNat] rfl
    (fun j u hj => by
      match j, hj with
      | 0, hj => simp at hj; subst hj; simpa [Addr.add] using hg
      | j + 1, hj => simp at hj)
    (fun u hu => by simp at hu; subst hu; rfl) (by unfold maxLen; omega) (by omega) hb
  refine ⟨v', w', h1, ?_, (Below.refl base w).grown h3 hb (fun k hk => (World.ownsRow.lt h k hk).1)⟩
  unfold Txt
  rw [List.length_append, Lib.byteCells_append]
  exact h2

theorem wp_addString {w : World} {ops : Array Oper} {rest : List Oper} {o : Oper} {a : Act} {Q : Exit → Act → World → Prop} (hgd : o.guard = none) (sl x : Operand)
    (ho : o.op = .call { callee := .builtin .append, args := #[sl, x], argTypes := #[115, 9] })
    (base : Nat) (v : Value) (l : List UInt8) (hs : a.eval sl = v) (h : Txt w base v l) (s : ByteArray) (hx : a.eval x = .string s) (hl : l.length + s.size ≤ 140737488355328) (hb : base ≤ w.heap.size)
    (hK : ∀ v' w', Txt w' base v' (l ++ s.data.toList) → Below base w w' → wpList Tryz.prog ops Q rest (a.put o.dst v') w') : wpList Tryz.prog ops Q (o :: rest) a w := by
  refine wpList_plain hgd fun K hK' => ?_
  obtain ⟨v', w', hr, h2, h3⟩ := h.addString s o.type hl hb
  unfold Oper.wp execOp
  simp only [ho, resolve, invoke, builtin, Sem.run_bind, Sem.run_pure, Result.andThen_ok, List.map_toArray, List.map_cons, List.map_nil, hs, hx, hr]
  exact hK' _ _ (hK v' w' h2 h3)

theorem wp_addByte {w : World} {ops : Array Oper} {rest : List Oper} {o : Oper} {a : Act} {Q : Exit → Act → World → Prop} (hgd : o.guard = none) (sl x : Operand)
    (ho : o.op = .call { callee := .builtin .append, args := #[sl, x], argTypes := #[115, 115] })
    (base : Nat) (v : Value) (l : List UInt8) (hs : a.eval sl = v) (h : Txt w base v l) (c : UInt8) (g : Nat) (hg : w.cell? ⟨g, 0, none⟩ = some (.int .u8 c.toNat)) (hx : a.eval x = .slice (some ⟨g, 0, none⟩) 1 1) (hl : l.length + 1 ≤ 140737488355328) (hb : base ≤ w.heap.size)
    (hK : ∀ v' w', Txt w' base v' (l ++ [c]) → Below base w w' → wpList Tryz.prog ops Q rest (a.put o.dst v') w') : wpList Tryz.prog ops Q (o :: rest) a w := by
  refine wpList_plain hgd fun K hK' => ?_
  obtain ⟨v', w', hr, h2, h3⟩ := h.addByte c g hg o.type hl hb
  unfold Oper.wp execOp
  simp only [ho, resolve, invoke, builtin, Sem.run_bind, Sem.run_pure, Result.andThen_ok, List.map_toArray, List.map_cons, List.map_nil, hs, hx, hr]
  exact hK' _ _ (hK v' w' h2 h3)

theorem Txt.string {w : World} {base : Nat} {v : Value} {l : List UInt8} (h : Txt w base v l) (hl : l ≠ []) : (convert 115 33 v).run Tryz.prog w = .ok (.string ⟨l.toArray⟩) w := by
  have hpos := List.length_pos_iff.2 hl
  rcases h.2 with ⟨_, h0⟩ | ⟨g, cap, cur, rfl, _, hg, _, _, _, htake⟩
  · omega
  · exact run_convert_bytes_back w 115 33 5 ⟨g, 0, none⟩ cap l Tryz.underlying115 Tryz.underlying5 Tryz.underlying33
      (Lib.bytes_of_row hg (by simpa using htake))

theorem Can_drop {zs : List Int} (h : Num.Can zs) (k : Nat) : Num.Can (zs.drop k) := by
  induction k generalizing zs with
  | zero => simpa using h
  | succ k ih =>
    cases zs with
    | nil => simpa using Num.Can.nil
    | cons z zs => simpa using ih h.tail

/-- the text while it is put together -/
def lead (neg : Bool) : List UInt8 := if neg then [45] else []

theorem write_step {zs : List Int} (h : Num.Can zs) {j : Nat} (hj : j + 1 < zs.length) (pre : List UInt8) :
    pre ++ Num.dig1 (Num.gval (zs.drop (j + 1))) ++ Num.pad9 (zs.getD j 0) = pre ++ Num.dig1 (Num.gval (zs.drop j)) := by
  have hp := Num.gval_pos (Can_drop h (j + 1)) (by rw [Ne, List.drop_eq_nil_iff]; omega)
  have hz := h.1.getD j
  rw [List.append_assoc, ← Num.dig1_step (by omega) hz.1 hz.2]
  rw [List.drop_eq_getElem_cons (show j < zs.length by omega)]
  simp [Num.gval, List.getD, show j < zs.length by omega]
theorem write_first {zs : List Int} (h : Num.Can zs) {n : Nat} (hn : zs.length = n + 1) : Lib.itoa (zs.getD n 0) = Num.dig1 (Num.gval (zs.drop n)) := by
  have hz := h.1.getD n
  rw [Num.dig1_itoa hz.1, List.drop_eq_getElem_cons (show n < zs.length by omega), List.drop_of_length_le (by omega)]
  simp [Num.gval, List.getD, show n < zs.length by omega]
theorem write_done (neg : Bool) {z : Int} (h : 0 < z) : lead neg ++ Num.dig1 z = Num.canon (if neg then -z else z) := by
  cases neg
  · simp [lead, Num.canon_pos h]
  · simp [lead, Num.canon_neg h]

theorem dig1_ne (z : Int) : Num.dig1 z ≠ [] := Num.decDigits_ne _
theorem num9 {z : Int} (h0 : 0 ≤ z) (h1 : z < 1000000000) : (Lib.itoa z).length ≤ 21 := Lib.itoa_length_le z (by omega) (by omega)

/-- the sign for negative -/
def sg (neg : Bool) (z : Int) : Int := if neg then -z else z

set_option maxRecDepth 100000 in
set_option maxHeartbeats 2000000 in
theorem write_nil (neg : Bool) (w : World) (xa : Option Addr) (cap : Nat) :
    Calls Tryz.prog 68 #[.bool neg, .slice xa 0 cap] w fun e w' => e = .returned (.string (cS (sg neg (Num.gval [])))) ∧ Below w.heap.size w w' := by
  go_enter Tryz.func68, Tryz.ntmps68
  go_wp2
  go_ret
  exact ⟨by cases neg <;> rfl, Below.refl _ _⟩

set_option maxRecDepth 100000 in
set_option maxHeartbeats 2000000 in
theorem write_pos (w : World) (hG : Ground w) (b o cap n : Nat) (zs : List Int) (hn : zs.length = n + 1) (hx : Sl w b o cap zs) (cz : Num.Can zs) (hlim : n ≤ 1099511627776) :
    Calls Tryz.prog 68 #[.bool false, .slice (some ⟨b, o, none⟩) (n + 1) cap] w fun e w' => e = .returned (.string (cS (sg false (Num.gval zs)))) ∧ Below w.heap.size w w' := by
  have hmk := run_makeBytes (1 + 9 * (n + 1)) (by omega)
  rw [show ((1 + 9 * (n + 1) : Nat) : Int) = 1 + 9 * ((n : Int) + 1) by omega] at hmk
  obtain ⟨x, hxx⟩ : ∃ x, x = zs.getD n 0 := ⟨_, rfl⟩
  have hxb := cz.1.getD n
  rw [← hxx] at hxb
  unfold Num.B at hxb
  have hfirst := write_first cz hn
  rw [← hxx] at hfirst
  have hz0 : ((n : Int) + 1 == 0) = false := by rw [beq_eq_false_iff_ne]; omega
  have hpos := Num.gval_pos cz (by rintro rfl; simp at hn)
  have HP := Lib.hid hpos
  have HF := Lib.hid hfirst
  have HX := Lib.hid hxx
  have HN := Lib.hid hn
  clear hpos hfirst hn
  have hc0 := (hx.alloc (byteRow (1 + 9 * (n + 1)))).cell n (by have := HN.out; omega)
  rw [← hxx] at hc0
  clear hxx
  have hT := Txt.made w (1 + 9 * (n + 1)) (by omega) (Nat.le_refl _)
  have hB : Below w.heap.size w (w.alloc (byteRow (1 + 9 * (n + 1)))) := (Below.refl _ _).alloc (Nat.le_refl _) _
  have HT := Lib.hid hT
  have HB := Lib.hid hB
  clear hT hB
  go_enter Tryz.func68, Tryz.ntmps68
  go_wp2_with fail
  refine (Tryz.strconv_Itoa x (by omega) (by omega) _ (hG.below HB.out).tab).mono ?_
  rintro e W1 ⟨rfl, q, os, hW⟩
  have hB1 := HB.out.trans ((below_grow (w := w.alloc (byteRow (1 + 9 * (n + 1)))) q os).mono (HB.out.size))
  have hT1 := HT.out.kept (below_grow (w := w.alloc (byteRow (1 + 9 * (n + 1)))) q os)
  rw [← hW] at hB1 hT1
  have hxl : (ByteArray.mk (Lib.itoa x).toArray).size ≤ 21 := by have := num9 hxb.1 hxb.2; rw [← size_toList]; simpa using this
  rw [HF.out] at hxl
  rw [HF.out]
  have HT1 := Lib.hid hT1
  have HB1 := Lib.hid hB1
  clear hW hB1 hT1
  go_wp2_with (at_builtin; refine wp_addString rfl _ _ rfl w.heap.size _ _ rfl HT1.out _ rfl (by simp; omega) HB1.out.size ?_; intro v2 W2 hT2 hB2; have HT2 := Lib.hid hT2; have HB2 := Lib.hid (HB1.out.trans hB2); clear hT2 hB2)
  have hlen0 : (lead false ++ Num.dig1 (Num.gval (zs.drop n))).length ≤ 22 + 21 * (n - n) := by
    have h1 : (lead false).length ≤ 1 := by decide
    have h2 : (Num.dig1 (Num.gval (zs.drop n))).length ≤ 21 := by rw [← HF.out]; exact num9 hxb.1 hxb.2
    rw [List.length_append]; omega
  have HLen0 := Lib.hid hlen0
  clear hlen0
  go_loopw [5, 7] (fun tv iv wr => ∃ k : Nat, k ≤ n ∧ iv = .int .i64 ((k : Int) - 1) ∧ Txt wr w.heap.size tv (lead false ++ Num.dig1 (Num.gval (zs.drop k))) ∧ (lead false ++ Num.dig1 (Num.gval (zs.drop k))).length ≤ 22 + 21 * (n - k) ∧ Below w.heap.size w wr) (fun _ iv _ => (intOf iv + 1).toNat)
  case atStart => exact ⟨n, Nat.le_refl _, rfl, HT2.out, HLen0.out, HB2.out⟩
  case round =>
    clear HT2 HB2 HT1 HB1
    obtain ⟨k, hk, rfl, hT, hlen, hB⟩ := hrel
    have HT := Lib.hid hT
    have HB := Lib.hid hB
    clear hT hB
    by_cases h0 : k = 0
    · subst h0
      have hstr := HT.out.string (by simp [dig1_ne])
      have hfin := write_done false (z := Num.gval zs) HP.out
      have HFin := Lib.hid hfin
      clear hfin
      go_wp2_with fail
      go_ret
      exact ⟨by rw [HFin.out]; rfl, HB.out⟩
    · obtain ⟨j, rfl⟩ : ∃ j, k = j + 1 := ⟨k - 1, by omega⟩
      rw [show ((j + 1 : Nat) : Int) - 1 = (j : Int) by omega]
      obtain ⟨y, hyy⟩ : ∃ y, y = zs.getD j 0 := ⟨_, rfl⟩
      have hyb := cz.1.getD j
      rw [← hyy] at hyb
      unfold Num.B at hyb
      have hyc := (hx.below HB.out hx.lt).cell j (by have := HN.out; omega)
      rw [← hyy] at hyc
      have HY := Lib.hid hyy
      clear hyy
      go_wp2_with fail
      refine (Tryz.strconv_Itoa (1000000000 + y) (by omega) (by omega) _ (hG.below HB.out).tab).mono ?_
      rintro e W3 ⟨rfl, q2, os2, hW⟩
      have hB3 := HB.out.trans ((below_grow (w := wr) q2 os2).mono (HB.out.size))
      have hT3 := HT.out.kept (below_grow (w := wr) q2 os2)
      rw [← hW] at hB3 hT3
      obtain ⟨S, hS⟩ : ∃ S : ByteArray, S = ⟨(Lib.itoa (1000000000 + y)).toArray⟩ := ⟨_, rfl⟩
      have hS1 : 1 ≤ S.size ∧ S.size ≤ 21 := by
        have h1 := Lib.itoa_length_le (1000000000 + y) (by omega) (by omega)
        have h2 : Lib.itoa (1000000000 + y) ≠ [] := by rw [Num.dig1_itoa (by omega)]; exact dig1_ne _
        have h3 := List.length_pos_iff.2 h2
        rw [hS, ← size_toList]; simp; omega
      have hpad : (S.extract 1 S.size).data.toList = Num.pad9 y := by
        rw [Lib.extract_to_end, hS]; unfold Num.pad9; simp
      have hel : (S.extract 1 S.size).size ≤ 21 := by rw [← size_toList, Lib.extract_to_end, List.length_drop, size_toList]; omega
      rw [← hS]
      have HT3 := Lib.hid hT3
      have HB3 := Lib.hid hB3
      have HPad := Lib.hid hpad
      have HEL := Lib.hid hel
      have hlen2 : (lead false ++ Num.dig1 (Num.gval (zs.drop (j + 1)))).length ≤ 30000000000000 := by omega
      have HLen := Lib.hid hlen
      have HLen2 := Lib.hid hlen2
      clear hW hB3 hT3 hS hpad hel hlen hlen2
      go_wp2_with (at_builtin; refine wp_addString rfl _ _ rfl w.heap.size _ _ rfl HT3.out _ rfl (by have := HEL.out; have := HLen2.out; omega) HB3.out.size ?_; intro v4 W4 hT4 hB4; have HT4 := Lib.hid hT4; have HB4 := Lib.hid (HB3.out.trans hB4); clear hT4 hB4)
      have hT4 := HT4.out
      rw [HPad.out, HY.out, write_step cz (by have := HN.out; omega)] at hT4
      have hl4 : (lead false ++ Num.dig1 (Num.gval (zs.drop j))).length ≤ 22 + 21 * (n - j) := by
        rw [← write_step cz (by have := HN.out; omega), List.length_append, ← HY.out, ← HPad.out, size_toList]
        have := HEL.out; have := HLen.out; omega
      go_roundw
      case rel => exact ⟨j, by omega, rfl, hT4, hl4, HB4.out⟩
      case measure => simp [intOf]

set_option maxRecDepth 100000 in
set_option maxHeartbeats 2000000 in
theorem write_neg (w : World) (hG : Ground w) (b o cap n : Nat) (zs : List Int) (hn : zs.length = n + 1) (hx : Sl w b o cap zs) (cz : Num.Can zs) (hlim : n ≤ 1099511627776) :
    Calls Tryz.prog 68 #[.bool true, .slice (some ⟨b, o, none⟩) (n + 1) cap] w fun e w' => e = .returned (.string (cS (sg true (Num.gval zs)))) ∧ Below w.heap.size w w' := by
  have hmk := run_makeBytes (1 + 9 * (n + 1)) (by omega)
  rw [show ((1 + 9 * (n + 1) : Nat) : Int) = 1 + 9 * ((n : Int) + 1) by omega] at hmk
  obtain ⟨x, hxx⟩ : ∃ x, x = zs.getD n 0 := ⟨_, rfl⟩
  have hxb := cz.1.getD n
  rw [← hxx] at hxb
  unfold Num.B at hxb
  have hfirst := write_first cz hn
  rw [← hxx] at hfirst
  have hz0 : ((n : Int) + 1 == 0) = false := by rw [beq_eq_false_iff_ne]; omega
  have hpos := Num.gval_pos cz (by rintro rfl; simp at hn)
  have HP := Lib.hid hpos
  have HF := Lib.hid hfirst
  have HX := Lib.hid hxx
  have HN := Lib.hid hn
  clear hpos hfirst hn
  have hc0 := (hx.alloc (byteRow (1 + 9 * (n + 1)))).cell n (by have := HN.out; omega)
  rw [← hxx] at hc0
  clear hxx
  have hT0 : Txt ((w.alloc (byteRow (1 + 9 * (n + 1)))).alloc (.cells #[.int .u8 45] 5)) w.heap.size (.slice (some ⟨w.heap.size, 0, none⟩) 0 (1 + 9 * (n + 1))) [] :=
    (Txt.made w _ (by omega) (Nat.le_refl _)).alloc _
  have hB0 : Below w.heap.size w ((w.alloc (byteRow (1 + 9 * (n + 1)))).alloc (.cells #[.int .u8 45] 5)) := ((Below.refl _ _).alloc (Nat.le_refl _) _).alloc (by simp) _
  have HT0 := Lib.hid hT0
  have HB0 := Lib.hid hB0
  clear hT0 hB0 hc0
  go_enter Tryz.func68, Tryz.ntmps68
  go_wp2_with (at_builtin; refine wp_addByte rfl _ _ rfl w.heap.size _ _ rfl HT0.out 45 (w.heap.size + 1) (by simp) rfl (by simp) (by simp; omega) ?_; intro v0 W0 hT hBa; have HT := Lib.hid hT; have HB := Lib.hid (HB0.out.trans hBa); have hc1 := ((hx.below HB.out hx.lt)).cell n (by have := HN.out; omega); rw [← HX.out] at hc1; clear hT hBa)
  refine (Tryz.strconv_Itoa x (by omega) (by omega) _ (hG.below HB.out).tab).mono ?_
  rintro e W1 ⟨rfl, q, os, hW⟩
  have hB1 := HB.out.trans ((below_grow (w := W0) q os).mono (HB.out.size))
  have hT1 := HT.out.kept (below_grow (w := W0) q os)
  rw [← hW] at hB1 hT1
  have hxl : (ByteArray.mk (Lib.itoa x).toArray).size ≤ 21 := by have := num9 hxb.1 hxb.2; rw [← size_toList]; simpa using this
  rw [HF.out] at hxl
  rw [HF.out]
  have HT1 := Lib.hid hT1
  have HB1 := Lib.hid hB1
  clear hW hB1 hT1
  go_wp2_with (at_builtin; refine wp_addString rfl _ _ rfl w.heap.size _ _ rfl HT1.out _ rfl (by simp; omega) HB1.out.size ?_; intro v2 W2 hT2 hB2; have HT2 := Lib.hid hT2; have HB2 := Lib.hid (HB1.out.trans hB2); clear hT2 hB2)
  have hlen0 : (lead true ++ Num.dig1 (Num.gval (zs.drop n))).length ≤ 22 + 21 * (n - n) := by
    have h1 : (lead true).length ≤ 1 := by decide
    have h2 : (Num.dig1 (Num.gval (zs.drop n))).length ≤ 21 := by rw [← HF.out]; exact num9 hxb.1 hxb.2
    rw [List.length_append]; omega
  have HLen0 := Lib.hid hlen0
  clear hlen0
  go_loopw [5, 7] (fun tv iv wr => ∃ k : Nat, k ≤ n ∧ iv = .int .i64 ((k : Int) - 1) ∧ Txt wr w.heap.size tv (lead true ++ Num.dig1 (Num.gval (zs.drop k))) ∧ (lead true ++ Num.dig1 (Num.gval (zs.drop k))).length ≤ 22 + 21 * (n - k) ∧ Below w.heap.size w wr) (fun _ iv _ => (intOf iv + 1).toNat)
  case atStart => exact ⟨n, Nat.le_refl _, rfl, HT2.out, HLen0.out, HB2.out⟩
  case round =>
    clear HT2 HB2 HT1 HB1
    obtain ⟨k, hk, rfl, hT, hlen, hB⟩ := hrel
    have HT := Lib.hid hT
    have HB := Lib.hid hB
    clear hT hB
    by_cases h0 : k = 0
    · subst h0
      have hstr := HT.out.string (by simp [dig1_ne])
      have hfin := write_done true (z := Num.gval zs) HP.out
      have HFin := Lib.hid hfin
      clear hfin
      go_wp2_with fail
      go_ret
      exact ⟨by rw [HFin.out]; rfl, HB.out⟩
    · obtain ⟨j, rfl⟩ : ∃ j, k = j + 1 := ⟨k - 1, by omega⟩
      rw [show ((j + 1 : Nat) : Int) - 1 = (j : Int) by omega]
      obtain ⟨y, hyy⟩ : ∃ y, y = zs.getD j 0 := ⟨_, rfl⟩
      have hyb := cz.1.getD j
      rw [← hyy] at hyb
      unfold Num.B at hyb
      have hyc := (hx.below HB.out hx.lt).cell j (by have := HN.out; omega)
      rw [← hyy] at hyc
      have HY := Lib.hid hyy
      clear hyy
      go_wp2_with fail
      refine (Tryz.strconv_Itoa (1000000000 + y) (by omega) (by omega) _ (hG.below HB.out).tab).mono ?_
      rintro e W3 ⟨rfl, q2, os2, hW⟩
      have hB3 := HB.out.trans ((below_grow (w := wr) q2 os2).mono (HB.out.size))
      have hT3 := HT.out.kept (below_grow (w := wr) q2 os2)
      rw [← hW] at hB3 hT3
      obtain ⟨S, hS⟩ : ∃ S : ByteArray, S = ⟨(Lib.itoa (1000000000 + y)).toArray⟩ := ⟨_, rfl⟩
      have hS1 : 1 ≤ S.size ∧ S.size ≤ 21 := by
        have h1 := Lib.itoa_length_le (1000000000 + y) (by omega) (by omega)
        have h2 : Lib.itoa (1000000000 + y) ≠ [] := by rw [Num.dig1_itoa (by omega)]; exact dig1_ne _
        have h3 := List.length_pos_iff.2 h2
        rw [hS, ← size_toList]; simp; omega
      have hpad : (S.extract 1 S.size).data.toList = Num.pad9 y := by
        rw [Lib.extract_to_end, hS]; unfold Num.pad9; simp
      have hel : (S.extract 1 S.size).size ≤ 21 := by rw [← size_toList, Lib.extract_to_end, List.length_drop, size_toList]; omega
      rw [← hS]
      have HT3 := Lib.hid hT3
      have HB3 := Lib.hid hB3
      have HPad := Lib.hid hpad
      have HEL := Lib.hid hel
      have hlen2 : (lead true ++ Num.dig1 (Num.gval (zs.drop (j + 1)))).length ≤ 30000000000000 := by omega
      have HLen := Lib.hid hlen
      have HLen2 := Lib.hid hlen2
      clear hW hB3 hT3 hS hpad hel hlen hlen2
      go_wp2_with (at_builtin; refine wp_addString rfl _ _ rfl w.heap.size _ _ rfl HT3.out _ rfl (by have := HEL.out; have := HLen2.out; omega) HB3.out.size ?_; intro v4 W4 hT4 hB4; have HT4 := Lib.hid hT4; have HB4 := Lib.hid (HB3.out.trans hB4); clear hT4 hB4)
      have hT4 := HT4.out
      rw [HPad.out, HY.out, write_step cz (by have := HN.out; omega)] at hT4
      have hl4 : (lead true ++ Num.dig1 (Num.gval (zs.drop j))).length ≤ 22 + 21 * (n - j) := by
        rw [← write_step cz (by have := HN.out; omega), List.length_append, ← HY.out, ← HPad.out, size_toList]
        have := HEL.out; have := HLen.out; omega
      go_roundw
      case rel => exact ⟨j, by omega, rfl, hT4, hl4, HB4.out⟩
      case measure => simp [intOf]

/-- write, at every sign, and for a slice that may be nil -/
theorem write_any (neg : Bool) (w : World) (hG : Ground w) (xa : Option Addr) (cap : Nat) (zs : List Int) (hx : 0 < zs.length → ∃ b o, xa = some ⟨b, o, none⟩ ∧ Sl w b o cap zs) (cz : Num.Can zs) (hlim : zs.length ≤ 1099511627776) :
    Calls Tryz.prog 68 #[.bool neg, .slice xa zs.length cap] w fun e w' => e = .returned (.string (cS (sg neg (Num.gval zs)))) ∧ Below w.heap.size w w' := by
  by_cases h0 : zs.length = 0
  · obtain rfl : zs = [] := List.eq_nil_of_length_eq_zero h0
    exact write_nil neg w xa cap
  · obtain ⟨n, hn⟩ : ∃ n, zs.length = n + 1 := ⟨zs.length - 1, by omega⟩
    obtain ⟨b, o, rfl, hsl⟩ := hx (by omega)
    rw [hn]
    cases neg
    · exact write_pos w hG b o cap n zs hn hsl cz (by omega)
    · exact write_neg w hG b o cap n zs hn hsl cz (by omega)

end Go.Proofs.YtahnkmkmoalbhaaGreatDoor

/- integer.Add, Sub, Mul: walks by contracts. -/
namespace Go.Proofs.YtahnkmkmoalbhaaGreatDoor
open Go.RowKit

theorem vS_sg (s : ByteArray) : vS s = sg (Num.sneg s.data.toList) (Num.gval (gS s)) := by
  rw [gS_val]
  cases h : Num.sneg s.data.toList
  · have := (vS_pos h).2; simp only [sg]; simp; omega
  · have := (vS_neg h).2; simp only [sg]; simp; omega

theorem gS_length (s : ByteArray) (hs : s.size ≤ 4294967296) : (gS s).length ≤ 500000000 := by
  unfold gS; rw [Num.grps_length]
  have := Num.sdig_length s.data.toList
  rw [size_toList] at this; omega

/-- what an operation with one string as its result leaves -/
def StrPost (w : World) (z : Int) (e : Ending) (w' : World) : Prop := e = .returned (.string (cS z)) ∧ Below w.heap.size w w'

/-- write at what combine leaves -/
theorem write_row (neg : Bool) (w0 w : World) (hG : Ground w) (hB : Below w0.heap.size w0 w) (b cap : Nat) (zs : List Int) (hx : Sl w b 0 cap zs) (cz : Num.Can zs) {z : Int} (hz : sg neg (Num.gval zs) = z) :
    Calls Tryz.prog 68 #[.bool neg, .slice (some ⟨b, 0, none⟩) zs.length cap] w (StrPost w0 z) := by
  refine (write_any neg w hG _ cap zs (fun _ => ⟨b, 0, rfl, hx⟩) cz (by have := hx.le; have := hx.max; omega)).mono ?_
  rintro e w' ⟨rfl, hb⟩
  exact ⟨by rw [hz], hB.trans (hb.mono hB.size)⟩

set_option maxRecDepth 100000 in
set_option maxHeartbeats 2000000 in
theorem add_any (a b : ByteArray) (w : World) (hG : Ground w) (ha : a.size ≤ 4294967296) (hb : b.size ≤ 4294967296) :
    Calls Tryz.prog 35 #[.string a, .string b] w (StrPost w (vS a + vS b)) := by
  have hva := vS_sg a
  have hvb := vS_sg b
  obtain ⟨na, hna⟩ : ∃ na, na = Num.sneg a.data.toList := ⟨_, rfl⟩
  obtain ⟨nb, hnb⟩ : ∃ nb, nb = Num.sneg b.data.toList := ⟨_, rfl⟩
  rw [← hna] at hva
  rw [← hnb] at hvb
  have HNA := Lib.hid hna
  have HNB := Lib.hid hnb
  have HVA := Lib.hid hva
  have HVB := Lib.hid hvb
  have hla := gS_length a ha
  have hlb := gS_length b hb
  have ga0 := Num.gval_nonneg (gS_can a).1
  have gb0 := Num.gval_nonneg (gS_can b).1
  clear hna hnb hva hvb
  go_enter Tryz.func35, Tryz.ntmps35
  go_wp2_with fail
  refine (read_any a w ha).mono ?_
  rintro e w1 ⟨bx, cx, rfl, hsx, hbx, hB1⟩
  rw [← HNA.out]
  go_wp2_with fail
  refine (read_any b w1 hb).mono ?_
  rintro e w2 ⟨bY, cy, rfl, hsy, hby, hB2⟩
  rw [← HNB.out]
  have hB : Below w.heap.size w w2 := hB1.trans (hB2.mono hB1.size)
  have hsx2 : Sl w2 bx 0 cx (gS a) := hsx.below hB2 hsx.lt
  have hG2 := hG.below hB
  have hbw : w.heap.size ≤ bY := by have := hB1.size; omega
  clear hB1 hB2 hsx
  by_cases hs : na = nb
  · subst hs
    obtain ⟨zs, hzs⟩ : ∃ zs, zs = Num.groups (Num.gval (gS a) + Num.gval (gS b)) := ⟨_, rfl⟩
    have hzc : Num.Can zs := by rw [hzs]; exact Num.Can.groups _
    have hzg : Num.gval zs = Num.gval (gS a) + 1 * Num.gval (gS b) := by rw [hzs, Num.gval_groups (by omega)]; omega
    have hv : sg na (Num.gval zs) = vS a + vS b := by rw [HVA.out, HVB.out, hzg]; cases na <;> simp [sg] <;> omega
    have HZG := Lib.hid hzg
    have HV := Lib.hid hv
    have hbb : (na == na) = true := by simp
    clear hzs hzg hv
    go_wp2_with fail
    refine (combine_any 1 w2 (some ⟨bx, 0, none⟩) cx bY 0 cy _ _ (gS a) (gS b) zs rfl rfl (fun _ => ⟨bx, 0, rfl, hsx2⟩) hsy (gS_can a).1 (gS_can b).1 (.inl rfl) (by omega) hzc HZG.out).mono ?_
    rintro e w3 ⟨b3, c3, rfl, hs3, hb3, hB3⟩
    go_wp2_with fail
    refine (write_row na w w3 (hG2.below hB3) (hB.trans (hB3.mono hB.size)) b3 c3 zs hs3 hzc HV.out).mono ?_
    rintro e w4 ⟨rfl, hB4⟩
    go_wp2_with fail
    go_ret
    exact ⟨rfl, hB4⟩
  · have hbb : (na == nb) = false := by simpa using hs
    by_cases hlt : Num.gval (gS a) < Num.gval (gS b)
    · have hcm : cmp3 (Num.gval (gS a)) (Num.gval (gS b)) < 0 := by rw [cmp3_lt hlt]; decide
      obtain ⟨zs, hzs⟩ : ∃ zs, zs = Num.groups (Num.gval (gS b) - Num.gval (gS a)) := ⟨_, rfl⟩
      have hzc : Num.Can zs := by rw [hzs]; exact Num.Can.groups _
      have hzg : Num.gval zs = Num.gval (gS b) + -1 * Num.gval (gS a) := by rw [hzs, Num.gval_groups (by omega)]; omega
      have hv : sg nb (Num.gval zs) = vS a + vS b := by rw [HVA.out, HVB.out, hzg]; cases na <;> cases nb <;> simp [sg] at hs ⊢ <;> omega
      have HZG := Lib.hid hzg
      have HV := Lib.hid hv
      have HCM := Lib.hid hcm
      clear hzs hzg hv hcm
      go_wp2_with fail
      refine (compareGroups_any w2 bx 0 cx bY 0 cy _ _ (gS a) (gS b) rfl rfl hsx2 hsy (gS_can a) (gS_can b)).mono ?_
      rintro e w3 ⟨rfl, k, rfl⟩
      obtain ⟨c, hc⟩ : ∃ c, c = cmp3 (Num.gval (gS a)) (Num.gval (gS b)) := ⟨_, rfl⟩
      rw [← hc]
      have hcb : c < 0 := by rw [hc]; exact HCM.out
      clear hc
      have hBk : Below w2.heap.size w2 (w2.drewN k) := below_drewN (Below.refl _ _) k
      go_wp2_with fail
      refine (combine_any (-1) (w2.drewN k) (some ⟨bY, 0, none⟩) cy bx 0 cx _ _ (gS b) (gS a) zs rfl rfl (fun _ => ⟨bY, 0, rfl, hsy.drewN k⟩) (hsx2.drewN k) (gS_can b).1 (gS_can a).1 (.inr rfl) (by omega) hzc HZG.out).mono ?_
      rintro e w3 ⟨b3, c3, rfl, hs3, hb3, hB3⟩
      have hB3' : Below w2.heap.size w2 w3 := hBk.trans (hB3.mono (Nat.le_refl _))
      go_wp2_with fail
      refine (write_row nb w w3 (hG2.below hB3') (hB.trans (hB3'.mono hB.size)) b3 c3 zs hs3 hzc HV.out).mono ?_
      rintro e w4 ⟨rfl, hB4⟩
      go_wp2_with fail
      go_ret
      exact ⟨rfl, hB4⟩
    · have hcm : ¬ cmp3 (Num.gval (gS a)) (Num.gval (gS b)) < 0 := by unfold cmp3; rw [if_neg hlt]; split <;> omega
      obtain ⟨zs, hzs⟩ : ∃ zs, zs = Num.groups (Num.gval (gS a) - Num.gval (gS b)) := ⟨_, rfl⟩
      have hzc : Num.Can zs := by rw [hzs]; exact Num.Can.groups _
      have hzg : Num.gval zs = Num.gval (gS a) + -1 * Num.gval (gS b) := by rw [hzs, Num.gval_groups (by omega)]; omega
      have hv : sg na (Num.gval zs) = vS a + vS b := by rw [HVA.out, HVB.out, hzg]; cases na <;> cases nb <;> simp [sg] at hs ⊢ <;> omega
      have HZG := Lib.hid hzg
      have HV := Lib.hid hv
      have HCM := Lib.hid hcm
      clear hzs hzg hv hcm
      go_wp2_with fail
      refine (compareGroups_any w2 bx 0 cx bY 0 cy _ _ (gS a) (gS b) rfl rfl hsx2 hsy (gS_can a) (gS_can b)).mono ?_
      rintro e w3 ⟨rfl, k, rfl⟩
      obtain ⟨c, hc⟩ : ∃ c, c = cmp3 (Num.gval (gS a)) (Num.gval (gS b)) := ⟨_, rfl⟩
      rw [← hc]
      have hcb : ¬ c < 0 := by rw [hc]; have := HCM.out; omega
      clear hc
      have hBk : Below w2.heap.size w2 (w2.drewN k) := below_drewN (Below.refl _ _) k
      go_wp2_with fail
      refine (combine_any (-1) (w2.drewN k) (some ⟨bx, 0, none⟩) cx bY 0 cy _ _ (gS a) (gS b) zs rfl rfl (fun _ => ⟨bx, 0, rfl, hsx2.drewN k⟩) (hsy.drewN k) (gS_can a).1 (gS_can b).1 (.inr rfl) (by omega) hzc HZG.out).mono ?_
      rintro e w3 ⟨b3, c3, rfl, hs3, hb3, hB3⟩
      have hB3' : Below w2.heap.size w2 w3 := hBk.trans (hB3.mono (Nat.le_refl _))
      go_wp2_with fail
      refine (write_row na w w3 (hG2.below hB3') (hB.trans (hB3'.mono hB.size)) b3 c3 zs hs3 hzc HV.out).mono ?_
      rintro e w4 ⟨rfl, hB4⟩
      go_wp2_with fail
      go_ret
      exact ⟨rfl, hB4⟩

theorem canon_length_le {z : Int} {k : Nat} (h : z.natAbs < 10 ^ k) : (Num.canon z).length ≤ k + 1 := by
  have : (Num.digs z.natAbs).length ≤ k := by
    by_cases h0 : z.natAbs = 0
    · rw [h0]; exact Nat.zero_le _
    · unfold Num.digs; rw [if_neg h0, Lib.decDigits_length]
      by_cases hk : Lib.nDigits z.natAbs ≤ k
      · exact hk
      · exfalso
        have hp := Num.Plain.digs z.natAbs
        have h1 : Num.digs z.natAbs = Lib.decDigits z.natAbs := by unfold Num.digs; rw [if_neg h0]
        have h2 := Num.num_digs z.natAbs
        rw [h1] at hp h2
        cases hd : Lib.decDigits z.natAbs with
        | nil => exact Num.decDigits_ne _ hd
        | cons c r =>
          rw [hd] at hp h2
          have hc := hp.1
          simp only [List.all_cons, Bool.and_eq_true] at hc
          have h3 := Num.num_ge c r hc.1 (by have := hp.2; simpa using this)
          have h4 : r.length + 1 = Lib.nDigits z.natAbs := by rw [← Lib.decDigits_length, hd]; rfl
          have h5 := Nat.pow_le_pow_right (show 1 ≤ 10 by decide) (show k ≤ r.length by omega)
          omega
  unfold Num.canon; split <;> simp <;> omega
theorem cS_size {z : Int} {k : Nat} (h : z.natAbs < 10 ^ k) : (cS z).size ≤ k + 1 := by
  have := canon_length_le h
  rw [← size_toList]; exact this
theorem vS_lt (s : ByteArray) : (vS s).natAbs < 10 ^ s.size := by
  unfold vS
  rw [Num.natAbs_val]
  have h1 := Num.num_lt _ (Num.Plain.sdig s.data.toList).1
  have h2 := Num.sdig_length s.data.toList
  rw [size_toList] at h2
  have := Nat.pow_le_pow_right (show 1 ≤ 10 by decide) h2
  unfold Num.mag; omega

set_option maxRecDepth 100000 in
set_option maxHeartbeats 2000000 in
theorem mul_any (a b : ByteArray) (w : World) (hG : Ground w) (ha : a.size ≤ 4294967296) (hb : b.size ≤ 4294967296) :
    Calls Tryz.prog 90 #[.string a, .string b] w (StrPost w (vS a * vS b)) := by
  have hva := vS_sg a
  have hvb := vS_sg b
  obtain ⟨na, hna⟩ : ∃ na, na = Num.sneg a.data.toList := ⟨_, rfl⟩
  obtain ⟨nb, hnb⟩ : ∃ nb, nb = Num.sneg b.data.toList := ⟨_, rfl⟩
  rw [← hna] at hva
  rw [← hnb] at hvb
  have HNA := Lib.hid hna
  have HNB := Lib.hid hnb
  have HVA := Lib.hid hva
  have HVB := Lib.hid hvb
  have hla := gS_length a ha
  have hlb := gS_length b hb
  clear hna hnb hva hvb
  go_enter Tryz.func90, Tryz.ntmps90
  go_wp2_with fail
  refine (read_any a w ha).mono ?_
  rintro e w1 ⟨bx, cx, rfl, hsx, hbx, hB1⟩
  rw [← HNA.out]
  go_wp2_with fail
  refine (read_any b w1 hb).mono ?_
  rintro e w2 ⟨bY, cy, rfl, hsy, hby, hB2⟩
  rw [← HNB.out]
  have hB : Below w.heap.size w w2 := hB1.trans (hB2.mono hB1.size)
  have hsx2 : Sl w2 bx 0 cx (gS a) := hsx.below hB2 hsx.lt
  have hG2 := hG.below hB
  clear hB1 hB2 hsx
  go_wp2_with fail
  refine (multiply_any w2 bx 0 cx bY 0 cy _ _ (gS a) (gS b) rfl rfl hsx2 hsy (gS_can a).1 (gS_can b).1 (by omega)).mono ?_
  rintro e w3 ⟨Z, rfl, hrow, hzl, hzn, hzg, hB3⟩
  have hBB : Below w.heap.size w w3 := hB.trans (hB3.mono hB.size)
  have hpre := hrow.prefix (Num.trimmed_prefix Z) (cap := (gS a).length + (gS b).length) (by have := (Num.trimmed_prefix Z).length_le; omega) (by omega)
  have hsl := hrow.sl (cap := (gS a).length + (gS b).length) (by omega) (by omega)
  have hv : sg (!(na == nb)) (Num.gval (Num.trimmed Z)) = vS a * vS b := by
    rw [Num.gval_trimmed, hzg, HVA.out, HVB.out]; cases na <;> cases nb <;> simp [sg, Int.neg_mul, Int.mul_neg]
  have HV := Lib.hid hv
  have HZL := Lib.hid hzl
  clear hv hzl hzg hrow
  go_wp2_with fail
  refine (trim_any w3 _ 0 _ _ Z HZL.out hsl).mono ?_
  rintro e w4 ⟨rfl, rfl⟩
  go_wp2_with fail
  refine (write_row (!(na == nb)) w w3 (hG.below hBB) hBB _ _ _ hpre (Num.Can.trimmed hzn) HV.out).mono ?_
  rintro e w4 ⟨rfl, hB4⟩
  go_wp2_with fail
  go_ret
  exact ⟨rfl, hB4⟩

end Go.Proofs.YtahnkmkmoalbhaaGreatDoor

/- integer.Div: the walk by contracts. -/
namespace Go.Proofs.YtahnkmkmoalbhaaGreatDoor
open Go.RowKit

theorem fdiv_unique {a b q r : Int} (h : a = q * b + r) (hb : (0 < b ∧ 0 ≤ r ∧ r < b) ∨ (b < 0 ∧ b < r ∧ r ≤ 0)) : Int.fdiv a b = q ∧ Int.fmod a b = r := by
  have hq : Int.fdiv a b = q := by
    rcases hb with ⟨h0, h1, h2⟩ | ⟨h0, h1, h2⟩
    · rw [Int.fdiv_eq_ediv_of_nonneg _ (by omega)]
      have := (Int.ediv_emod_unique (a := a) (b := b) (r := r) (q := q) h0).2 ⟨by rw [h, Int.mul_comm]; omega, h1, h2⟩
      exact this.1
    · rw [← Int.neg_fdiv_neg, Int.fdiv_eq_ediv_of_nonneg _ (by omega)]
      have := (Int.ediv_emod_unique (a := -a) (b := -b) (r := -r) (q := q) (by omega)).2 ⟨by rw [h, Int.mul_comm q b, Int.neg_mul]; omega, by omega, by omega⟩
      exact this.1
  refine ⟨hq, ?_⟩
  have := Int.fmod_add_mul_fdiv a b
  rw [hq, Int.mul_comm] at this; omega

/-- what Div leaves, at a divisor that is not 0 -/
def DivPost (w : World) (a b : Int) (e : Ending) (w' : World) : Prop :=
  e = .returned (.tuple #[.string (cS (Int.fdiv a b)), .string (cS (Int.fmod a b)), .int .i64 0]) ∧ Below w.heap.size w w'

theorem grps_nil {s : ByteArray} : (gS s).length = 0 ↔ vS s = 0 := by
  have h1 := gS_val s
  have h2 := Num.gval_eq_zero (gS_can s)
  constructor
  · intro h
    have := h2.2 (List.eq_nil_of_length_eq_zero h)
    omega
  · intro h
    have := h2.1 (by rw [h1, h]; rfl)
    rw [this]; rfl

/-- quotient and remainder of the values: the same sign -/
theorem div_same {A Bv : Int} {n : Bool} {X Y Q R : Int} (hA : A = sg n X) (hB : Bv = sg n Y) (hx : X = Q * Y + R) (h0 : 0 ≤ R) (h1 : R < Y) :
    sg false Q = Int.fdiv A Bv ∧ sg n R = Int.fmod A Bv := by
  have := fdiv_unique (a := A) (b := Bv) (q := sg false Q) (r := sg n R)
    (by rw [hA, hB, hx]; cases n
        · simp [sg]
        · simp only [sg, if_true, Bool.false_eq_true, if_false]; rw [Int.mul_neg]; omega)
    (by rw [hB]; cases n
        · left; simp [sg]; omega
        · right; simp [sg]; omega)
  exact ⟨this.1.symm, this.2.symm⟩
/-- other signs, no remainder -/
theorem div_exact {A Bv : Int} {na nb : Bool} {X Y Q R : Int} (hA : A = sg na X) (hB : Bv = sg nb Y) (hx : X = Q * Y + R) (h0 : R = 0) (h1 : R < Y) (hc : na ≠ nb) :
    sg true Q = Int.fdiv A Bv ∧ sg nb R = Int.fmod A Bv := by
  have := fdiv_unique (a := A) (b := Bv) (q := sg true Q) (r := sg nb R)
    (by rw [hA, hB, hx]
        cases na <;> cases nb <;> simp only [ne_eq, not_true_eq_false] at hc <;> simp only [sg, if_true, Bool.false_eq_true, if_false, Int.neg_mul, Int.mul_neg] <;> omega)
    (by rw [hB]; cases nb
        · left; simp [sg]; omega
        · right; simp [sg]; omega)
  exact ⟨this.1.symm, this.2.symm⟩
/-- other signs, with a remainder -/
theorem div_corrected {A Bv : Int} {na nb : Bool} {X Y Q R : Int} (hA : A = sg na X) (hB : Bv = sg nb Y) (hx : X = Q * Y + R) (h0 : 0 < R) (h1 : R < Y) (hc : na ≠ nb) :
    sg true (Q + 1) = Int.fdiv A Bv ∧ sg nb (Y - R) = Int.fmod A Bv := by
  have := fdiv_unique (a := A) (b := Bv) (q := sg true (Q + 1)) (r := sg nb (Y - R))
    (by rw [hA, hB, hx]
        cases na <;> cases nb <;> simp only [ne_eq, not_true_eq_false] at hc <;> simp only [sg, if_true, Bool.false_eq_true, if_false, Int.neg_mul, Int.mul_neg, Int.add_mul] <;> omega)
    (by rw [hB]; cases nb
        · left; simp [sg]; omega
        · right; simp [sg]; omega)
  exact ⟨this.1.symm, this.2.symm⟩

set_option maxRecDepth 100000 in
set_option maxHeartbeats 4000000 in
theorem div_any (a b : ByteArray) (w : World) (hG : Ground w) (ha : a.size ≤ 4294967296) (hb : b.size ≤ 4294967296) (h0 : vS b ≠ 0) :
    Calls Tryz.prog 89 #[.string a, .string b] w (DivPost w (vS a) (vS b)) := by
  have hva := vS_sg a
  have hvb := vS_sg b
  obtain ⟨na, hna⟩ : ∃ na, na = Num.sneg a.data.toList := ⟨_, rfl⟩
  obtain ⟨nb, hnb⟩ : ∃ nb, nb = Num.sneg b.data.toList := ⟨_, rfl⟩
  rw [← hna] at hva
  rw [← hnb] at hvb
  have hla := gS_length a ha
  have hlb := gS_length b hb
  have ga0 := Num.gval_nonneg (gS_can a).1
  have hyl : (gS b).length ≠ 0 := fun h => h0 (grps_nil.1 h)
  have gb0 := Num.gval_pos (gS_can b) (by intro h; rw [h] at hyl; exact hyl rfl)
  have hyb : (((gS b).length : Int) == 0) = false := by rw [beq_eq_false_iff_ne]; omega
  have HNA := Lib.hid hna
  have HNB := Lib.hid hnb
  have HVA := Lib.hid hva
  have HVB := Lib.hid hvb
  clear hna hnb hva hvb h0
  go_enter Tryz.func89, Tryz.ntmps89
  go_wp2_with fail
  refine (read_any a w ha).mono ?_
  rintro e w1 ⟨bx, cx, rfl, hsx, hbx, hB1⟩
  rw [← HNA.out]
  go_wp2_with fail
  refine (read_any b w1 hb).mono ?_
  rintro e w2 ⟨bY, cy, rfl, hsy, hby, hB2⟩
  rw [← HNB.out]
  have hB : Below w.heap.size w w2 := hB1.trans (hB2.mono hB1.size)
  have hsx2 : Sl w2 bx 0 cx (gS a) := hsx.below hB2 hsx.lt
  have hG2 := hG.below hB
  clear hB1 hB2 hsx
  go_wp2_with fail
  refine (divide_any w2 bx 0 cx bY 0 cy _ _ (gS a) (gS b) rfl rfl hsx2 hsy (gS_can a) (gS_can b) hyl (by omega)).mono ?_
  rintro e w3 ⟨qs, rs, qa, qcap, rb, ro, rcap, rfl, hqc, hrc, hx, hlt, hqs, hrs, hql, hrl, hB3⟩
  have hBB : Below w.heap.size w w3 := hB.trans (hB3.mono hB.size)
  have hG3 := hG.below hBB
  have hr0 := Num.gval_nonneg hrc.1
  by_cases hc : na = nb
  · subst hc
    have hvv := div_same HVA.out HVB.out hx hr0 hlt
    have HVV := Lib.hid hvv
    have HQS := Lib.hid hqs
    clear hvv hx hlt hqs
    go_wp2_with fail
    refine (write_any false w3 hG3 qa qcap qs HQS.out hqc (by omega)).mono ?_
    rintro e w4 ⟨rfl, hB4⟩
    have hB' := hBB.trans (hB4.mono hBB.size)
    rw [HVV.out.1]
    go_wp2_with fail
    refine (write_any na w4 (hG.below hB') (some ⟨rb, ro, none⟩) rcap rs (fun h => ⟨rb, ro, rfl, hrs.below hB4 hrs.lt⟩) hrc (by omega)).mono ?_
    rintro e w5 ⟨rfl, hB5⟩
    rw [HVV.out.2]
    go_wp2_with fail
    go_ret3
    exact ⟨rfl, hB'.trans (hB5.mono hB'.size)⟩
  · have hbb : (na == nb) = false := by simpa using hc
    by_cases hr : rs.length = 0
    · obtain rfl : rs = [] := List.eq_nil_of_length_eq_zero hr
      have hvv := div_exact HVA.out HVB.out hx rfl hlt hc
      have HVV := Lib.hid hvv
      have HQS := Lib.hid hqs
      clear hvv hx hlt hqs hr
      go_wp2_with fail
      refine (write_any true w3 hG3 qa qcap qs HQS.out hqc (by omega)).mono ?_
      rintro e w4 ⟨rfl, hB4⟩
      have hB' := hBB.trans (hB4.mono hBB.size)
      rw [HVV.out.1]
      go_wp2_with fail
      refine (write_nil nb w4 (some ⟨rb, ro, none⟩) rcap).mono ?_
      rintro e w5 ⟨rfl, hB5⟩
      rw [HVV.out.2]
      go_wp2_with fail
      go_ret3
      exact ⟨rfl, hB'.trans (hB5.mono hB'.size)⟩
    · have hr1 : 0 < rs.length := by omega
      have hrpos := Num.gval_pos hrc (by rintro rfl; simp at hr)
      have hvv := div_corrected HVA.out HVB.out hx hrpos hlt hc
      have hq0 := Num.gval_nonneg hqc.1
      obtain ⟨q2, hq2⟩ : ∃ q2, q2 = Num.groups (Num.gval qs + 1) := ⟨_, rfl⟩
      obtain ⟨r2, hr2⟩ : ∃ r2, r2 = Num.groups (Num.gval (gS b) - Num.gval rs) := ⟨_, rfl⟩
      have hq2c : Num.Can q2 := by rw [hq2]; exact Num.Can.groups _
      have hr2c : Num.Can r2 := by rw [hr2]; exact Num.Can.groups _
      have hq2g : Num.gval q2 = Num.gval qs + 1 * Num.gval [1] := by rw [hq2, Num.gval_groups (by omega), Num.gval_one]; omega
      have hr2g : Num.gval r2 = Num.gval (gS b) + -1 * Num.gval rs := by rw [hr2, Num.gval_groups (by omega)]; omega
      have hvq : sg true (Num.gval q2) = Int.fdiv (vS a) (vS b) := by rw [hq2g, Num.gval_one, ← hvv.1]; simp
      have hvr : sg nb (Num.gval r2) = Int.fmod (vS a) (vS b) := by
        rw [hr2g, ← hvv.2, show Num.gval (gS b) + -1 * Num.gval rs = Num.gval (gS b) - Num.gval rs by omega]
      have HQ2 := Lib.hid hq2g
      have HR2 := Lib.hid hr2g
      have HVQ := Lib.hid hvq
      have HVR := Lib.hid hvr
      have HQS := Lib.hid hqs
      clear hvv hx hlt hqs hq2 hr2 hq2g hr2g hvq hvr
      go_wp2_with fail
      obtain ⟨W4, hW4⟩ : ∃ W4, W4 = w3.alloc (.cells #[.int .i64 1] 3) := ⟨_, rfl⟩
      have hB4 : Below w3.heap.size w3 W4 := by rw [hW4]; exact (Below.refl _ _).alloc (Nat.le_refl _) _
      have hs4 : Sl W4 w3.heap.size 0 1 [1] := by rw [hW4]; exact one_sl w3 1
      rw [← hW4]
      clear hW4
      refine (combine_any 1 W4 qa qcap w3.heap.size 0 1 _ 1 qs [1] q2 rfl rfl (fun h => (HQS.out h).imp fun b h => h.imp fun o h => ⟨h.1, h.2.below hB4 h.2.lt⟩) hs4 hqc.1 (Num.Norm.one (by decide) (by decide)) (.inl rfl) (by omega) hq2c HQ2.out).mono ?_
      rintro e w5 ⟨b5, c5, rfl, hs5, hb5, hB5⟩
      have hB35 : Below w3.heap.size w3 w5 := hB4.trans (hB5.mono hB4.size)
      clear hs4
      go_wp2_with fail
      refine (combine_any (-1) w5 (some ⟨bY, 0, none⟩) cy rb ro rcap _ _ (gS b) rs r2 rfl rfl (fun h => ⟨bY, 0, rfl, (hsy.below hB3 hsy.lt).below hB35 (Nat.lt_of_lt_of_le hsy.lt hB3.size)⟩) (hrs.below hB35 hrs.lt) (gS_can b).1 hrc.1 (.inr rfl) (by omega) hr2c HR2.out).mono ?_
      rintro e w6 ⟨b6, c6, rfl, hs6, hb6, hB6⟩
      have hB6' : Below w.heap.size w w6 := (hBB.trans (hB35.mono hBB.size)).trans (hB6.mono (hBB.trans (hB35.mono hBB.size)).size)
      go_wp2_with fail
      refine (write_any true w6 (hG.below hB6') _ c5 q2 (fun _ => ⟨b5, 0, rfl, hs5.below hB6 hs5.lt⟩) hq2c (by have := hs5.le; have := hs5.max; omega)).mono ?_
      rintro e w7 ⟨rfl, hB7⟩
      rw [HVQ.out]
      have hB7' := hB6'.trans (hB7.mono hB6'.size)
      go_wp2_with fail
      refine (write_row nb w w7 (hG.below hB7') hB7' b6 c6 r2 (hs6.below hB7 hs6.lt) hr2c HVR.out).mono ?_
      rintro e w8 ⟨rfl, hB8⟩
      go_wp2_with fail
      go_ret3
      exact ⟨rfl, hB8⟩
end Go.Proofs.YtahnkmkmoalbhaaGreatDoor

/- integer.Power: the walk by contracts. -/
namespace Go.Proofs.YtahnkmkmoalbhaaGreatDoor
open Go.RowKit

theorem natAbs_pow (x : Int) (m : Nat) : (x ^ m).natAbs = x.natAbs ^ m := Int.natAbs_pow x m

end Go.Proofs.YtahnkmkmoalbhaaGreatDoor
