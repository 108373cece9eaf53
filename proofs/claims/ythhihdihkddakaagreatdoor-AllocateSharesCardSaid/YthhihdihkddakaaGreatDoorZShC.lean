/- integer.reduce, shrink: walks. -/
import Derived.Test.YthhihdihkddakaaGreatDoorZShB
import Derived.BigRegion
import Derived.RegionTactic
namespace Go.Proofs.YthhihdihkddakaaGreatDoor
open Go.RowKit
open Num (Part put Filled RedInv)

/-- what reduce leaves: the quotient, and the remainder in the place of the number -/
def Reduced (w : World) (b o t : Nat) (Z D : List Int) (e : Ending) (w' : World) : Prop :=
  ∃ q ws, e = .returned (.int .i64 q) ∧ Row w' b (put Z o ws) ∧ ws.length = t + 2 ∧ Num.Norm ws ∧ q = Num.gval (Num.part Z o (t + 2)) / Num.gval D ∧
    Num.gval ws = Num.gval (Num.part Z o (t + 2)) - q * Num.gval D ∧ 0 ≤ Num.gval ws ∧ Num.gval ws < Num.gval D ∧ w.grownBy w' (some b)

set_option maxRecDepth 100000 in
set_option maxHeartbeats 1000000 in
theorem reduce_any (w : World) (b o m cap ob oy capy k t : Nat) (Z D : List Int) (hk : k = t + 1) (hm : m = t + 2) (hr : Row w b Z) (hy : Sl w ob oy capy D) (hne : ob ≠ b) (hom : o + m ≤ Z.length) (hZ : Z.length ≤ 1099511627776)
    (hn : Num.Norm Z) (hD : Num.Can D) (hDl : D.length = t + 1) (hlt : Num.gval (Num.part Z o (t + 2)) < Num.B * Num.gval D) :
    Calls Tryz.prog 158 #[.slice (some ⟨b, o, none⟩) m cap, .slice (some ⟨ob, oy, none⟩) k capy] w (Reduced w b o t Z D) := by
  subst hk hm
  obtain ⟨r1, hr1⟩ : ∃ r1, r1 = Z.getD (o + (t + 1)) 0 := ⟨_, rfl⟩
  obtain ⟨r0, hr0⟩ : ∃ r0, r0 = Z.getD (o + t) 0 := ⟨_, rfl⟩
  obtain ⟨d, hd⟩ : ∃ d, d = D.getD t 0 := ⟨_, rfl⟩
  have c1 : w.cell? ⟨b, o + (t + 1), none⟩ = some (.int .i64 r1) := by rw [hr1]; exact hr.cell (by omega)
  have c0 : w.cell? ⟨b, o + t, none⟩ = some (.int .i64 r0) := by rw [hr0]; exact hr.cell (by omega)
  have cd : w.cell? ⟨ob, oy + t, none⟩ = some (.int .i64 d) := by rw [hd]; exact hy.cell t (by omega)
  have hb1 := hn.getD (o + (t + 1))
  have hb0 := hn.getD (o + t)
  have hbd := hD.1.getD t
  rw [← hr1] at hb1
  rw [← hr0] at hb0
  rw [← hd] at hbd
  have hd0 : 0 < d := by rw [hd]; exact hD.last_pos hDl
  unfold Num.B at hb1 hb0 hbd
  obtain ⟨g, hg⟩ : ∃ g, min ((r1 * 1000000000 + r0) / d) 999999999 = g := ⟨_, rfl⟩
  have hq0 : 0 ≤ (r1 * 1000000000 + r0) / d := Int.ediv_nonneg (by omega) (by omega)
  have hgb : 0 ≤ g ∧ g ≤ 999999999 := by omega
  have hDpos : 0 < Num.gval D := Num.gval_pos hD (by rintro rfl; simp at hDl)
  have hsl : (Num.part Z o (t + 2)).length = t + 2 := Num.part_length (by omega)
  have hsn : Num.Norm (Num.part Z o (t + 2)) := hn.part o (t + 2)
  have hge : Num.gval (Num.part Z o (t + 2)) / Num.gval D ≤ g := by
    have h1 : Num.gval (Num.part Z o (t + 2)) / Num.gval D * Num.gval D ≤ Num.gval (Num.part Z o (t + 2)) := Int.ediv_mul_le _ (by omega)
    have h2 := Num.guess_ge hsn hsl hD.1 hDl (by rw [← hd]; exact hd0) h1 (Int.ediv_nonneg (Num.gval_nonneg hsn) (by omega))
    rw [Num.part_getD (by omega), Num.part_getD (by omega), ← hd, ← hr1, ← hr0] at h2
    have h3 : Num.gval (Num.part Z o (t + 2)) / Num.gval D < Num.B := Int.ediv_lt_of_lt_mul hDpos hlt
    unfold Num.B at h2 h3
    omega
  have HS := Lib.hid (And.intro hsl hsn)
  have HGE := Lib.hid hge
  clear hsl hsn hge
  have HL := Lib.hid hDl
  have H1 := Lib.hid hr1
  have H0 := Lib.hid hr0
  have HD := Lib.hid hd
  have HLT := Lib.hid hlt
  have HR := Lib.hid hr
  clear hDl hr1 hr0 hd hlt hr
  go_enter Tryz.func158, Tryz.ntmps158
  go_wp2_with fail
  go_quiet (fail)
  go_wp2_with fail
  have hlast : ∀ i, 0 ≤ Z.getD (o + i) 0 ∧ Z.getD (o + i) 0 < Num.B := fun i => hn.getD (o + i)
  refine (addTimes_any (-g) _ b o (t + 2) cap ob oy capy (t + 1) Z D HL.out (HR.out.drewN _) (hy.drewN _) hne (by omega) (by omega) hZ (fun i _ => hlast i) (by have := hlast (t + 2 - 1); unfold Num.B at this; omega) hD.1 (by omega) (by omega)).mono ?_
  rintro e W1 ⟨rfl, ws, hfil, hrow1, hg1⟩
  have hinv : RedInv (Num.part Z o (t + 2)) D t g ws := ⟨by rw [hfil.len, HS.out.1], fun i hi => hfil.norm i hi, by rw [hfil.eq, Int.neg_mul]; omega, HGE.out, hgb.2⟩
  have hg2 : w.grownBy W1 (some b) := grown_trans (grown_drewN (grown_refl w _) _) hg1
  have HI := Lib.hid hinv
  have HR1 := Lib.hid hrow1
  have HG1 := Lib.hid hg2
  clear hinv hrow1 hg2 hg1 hfil hlast hg hq0
  go_wp2_with fail
  go_loopw [6] (fun gv wr => ∃ (g : Int) (ws : List Int), gv = .int .i64 g ∧ 0 ≤ g ∧ RedInv (Num.part Z o (t + 2)) D t g ws ∧ Row wr b (put Z o ws) ∧ w.grownBy wr (some b)) (fun gv _ => (intOf gv).toNat)
  case atStart => exact ⟨g, ws, rfl, hgb.1, HI.out, HR1.out, HG1.out⟩
  case round =>
    clear HI HR1 HG1 hgb HGE
    obtain ⟨g, ws, rfl, hg0, hinv, hrow, hgr⟩ := hrel
    have hg9 := hinv.le
    obtain ⟨x, hx⟩ : ∃ x, x = ws.getD (t + 1) 0 := ⟨_, rfl⟩
    have hpl : (put Z o ws).length = Z.length := Num.put_length (by rw [hinv.len]; omega)
    have hc : wr.cell? ⟨b, o + (t + 1), none⟩ = some (.int .i64 x) := by
      rw [hrow.cell (by omega), Num.put_getD_in (by omega) (by rw [hinv.len]; omega), hx]
    have hlb := hinv.last HS.out.2 HS.out.1 hD.1 HL.out hDpos
    rw [← hx] at hlb
    have hyr : Sl wr ob oy capy D := hy.grown hgr (by simp; exact hne)
    have HI := Lib.hid hinv
    have HRw := Lib.hid hrow
    have HG := Lib.hid hgr
    have HX := Lib.hid hx
    have HP := Lib.hid hpl
    clear hinv hrow hgr hx hpl
    by_cases hneg : x < 0
    · have hwsl := HI.out.len
      have hin : ∀ i, i + 1 < t + 2 → 0 ≤ (put Z o ws).getD (o + i) 0 ∧ (put Z o ws).getD (o + i) 0 < Num.B := fun i hi => by
        rw [Num.put_getD_in (by omega) (by omega)]; exact HI.out.init i (by omega)
      have hin2 : (put Z o ws).getD (o + (t + 2 - 1)) 0 = x := by
        rw [show t + 2 - 1 = t + 1 by omega, Num.put_getD_in (by omega) (by omega), HX.out]
      have HWL := Lib.hid hwsl
      have HIN := Lib.hid hin
      have HIN2 := Lib.hid hin2
      clear hwsl hin hin2
      go_wp2_with fail
      refine (addTimes_any 1 wr b o (t + 2) cap ob oy capy (t + 1) (put Z o ws) D HL.out HRw.out hyr hne (by omega) (by have := HP.out; omega) (by have := HP.out; omega) HIN.out (by rw [HIN2.out]; omega) hD.1 (by omega) (by omega)).mono ?_
      rintro e W2 ⟨rfl, vs, hfil, hrow2, hg2⟩
      rw [Num.part_put (by omega) HWL.out] at hfil
      rw [Num.put_put (by omega) (by rw [hfil.len])] at hrow2
      have hinv2 : RedInv (Num.part Z o (t + 2)) D t (g - 1) vs ∧ 0 < g := by
        rcases HI.out.again hDpos (by rw [← HX.out]; exact hneg) hfil with h | h
        · exact h
        · have := Num.gval_nonneg HS.out.2; omega
      have hg0' := hinv2.2
      have HI2 := Lib.hid hinv2.1
      have HR2 := Lib.hid hrow2
      have HG2 := Lib.hid (grown_trans HG.out hg2)
      clear hinv2 hrow2 hg2 hfil
      go_wp2_with fail
      go_roundw
      case rel => exact ⟨g - 1, vs, rfl, by omega, HI2.out, HR2.out, HG2.out⟩
      case measure => simp [intOf]; omega
    · have hdone := HI.out.done hD.1 HL.out hDpos (by rw [← HX.out]; exact hneg)
      have HDn := Lib.hid hdone
      clear hdone
      go_wp2_with fail
      go_ret
      exact ⟨g, ws, rfl, HRw.out, HI.out.len, HDn.out.1, HDn.out.2.2.2.2.symm, HDn.out.2.1, HDn.out.2.2.1, HDn.out.2.2.2.1, HG.out⟩

set_option maxRecDepth 100000 in
set_option maxHeartbeats 1000000 in
theorem shrink_any (d : Int) (w : World) (b o cap n : Nat) (xs zs : List Int) (hn : xs.length = n) (hx : Sl w b o cap xs) (cx : Num.Norm xs) (hd : 1 ≤ d ∧ d ≤ 1000000000) (hz : Num.Can zs) (hv : Num.gval xs = Num.gval zs * d) (hlim : n ≤ 1000000000000) :
    Calls Tryz.prog 159 #[.slice (some ⟨b, o, none⟩) n cap, .int .i64 d] w (NewRow w zs) := by
  have hmk := run_makeInts n (by omega)
  have HN := Lib.hid hn
  have HV := Lib.hid hv
  clear hn hv
  go_enter Tryz.func159, Tryz.ntmps159
  go_wp2_with fail
  go_loopw [6, 7] (fun rv iv wr => ∃ (k : Nat) (r : Int), k ≤ n ∧ iv = .int .i64 ((k : Int) - 1) ∧ rv = .int .i64 r ∧ 0 ≤ r ∧ r < d ∧ ∃ Q, Num.ShrInv xs d k Q r ∧ Row wr w.heap.size Q ∧ Below w.heap.size w wr) (fun _ iv _ => (intOf iv + 1).toNat)
  case atStart => exact ⟨n, 0, Nat.le_refl _, rfl, rfl, by omega, by omega, _, by have := Num.ShrInv.start xs (show 0 < d by omega); rw [HN.out] at this; exact this, Row.made w n, (Below.refl _ _).alloc (Nat.le_refl _) _⟩
  case round =>
    obtain ⟨k, r, hk, rfl, rfl, r0, r1, Q, hinv, hrow, hB⟩ := hrel
    have HI := Lib.hid hinv
    have HR := Lib.hid hrow
    have HB := Lib.hid hB
    have HQ := Lib.hid hinv.len
    clear hinv hrow hB
    by_cases h0 : k = 0
    · subst h0
      have hsl := HR.out.sl (cap := n) (by rw [HQ.out, HN.out]; omega) (by omega)
      have htr := HI.out.done (show 0 < d by omega) hz HV.out
      have hpre : zs <+: Q := by rw [← htr]; exact Num.trimmed_prefix Q
      have hres := HR.out.prefix hpre (cap := n) (by have := hpre.length_le; rw [HQ.out, HN.out] at this; exact this) (by omega)
      have HTR := Lib.hid htr
      have HRes := Lib.hid hres
      clear htr hpre hres
      go_wp2_with fail
      refine (trim_any wr _ 0 n n Q (by rw [HQ.out, HN.out]) hsl).mono ?_
      rintro e W3 ⟨rfl, rfl⟩
      go_wp2_with fail
      go_ret
      exact ⟨w.heap.size, n, by rw [← HTR.out]; rfl, HRes.out, Nat.le_refl _, HB.out⟩
    · obtain ⟨j, rfl⟩ : ∃ j, k = j + 1 := ⟨k - 1, by omega⟩
      rw [show ((j + 1 : Nat) : Int) - 1 = (j : Int) by omega]
      obtain ⟨x, hxx⟩ : ∃ x, x = xs.getD j 0 := ⟨_, rfl⟩
      have hc : wr.cell? ⟨b, o + j, none⟩ = some (.int .i64 x) := by rw [hxx]; exact (hx.below HB.out hx.lt).cell j (by have := HN.out; omega)
      have hxb := cx.getD j
      rw [← hxx] at hxb
      unfold Num.B at hxb
      have hn0 : 0 ≤ r * 1000000000 + x ∧ r * 1000000000 + x < 1000000000 * d := by omega
      have hq : (r * 1000000000 + x) / d < 1000000000 ∧ 0 ≤ (r * 1000000000 + x) / d := ⟨Int.ediv_lt_of_lt_mul (by omega) hn0.2, Int.ediv_nonneg hn0.1 (by omega)⟩
      have hrm : 0 ≤ (r * 1000000000 + x) % d ∧ (r * 1000000000 + x) % d < d := ⟨Int.emod_nonneg _ (by omega), Int.emod_lt_of_pos _ (by omega)⟩
      have hf : wr.frozen? ⟨w.heap.size, j, none⟩ = false := HR.out.frozen j
      obtain ⟨v0, hv0⟩ : ∃ v0, wr.cell? ⟨w.heap.size, j, none⟩ = some (.int .i64 v0) := ⟨_, HR.out.cell (by rw [HQ.out, HN.out]; omega)⟩
      have HX := Lib.hid hxx
      clear hxx
      have hst := HI.out.step (by have := HN.out; omega) cx (show 0 < d by omega) HX.out (n := r * 1000000000 + x) rfl
      have H := Lib.hid hst
      clear hst
      go_wp2_with fail
      go_roundw
      case rel => exact ⟨j, _, by omega, rfl, rfl, hrm.1, hrm.2, _, H.out, HR.out.set _ _, HB.out.setCell (p := ⟨w.heap.size, j, none⟩) (Nat.le_refl _) _⟩
      case measure => simp [intOf]
end Go.Proofs.YthhihdihkddakaaGreatDoor

/- The plain mathematics of long division: the whole. -/
namespace Go.Proofs.YthhihdihkddakaaGreatDoor.Num

/-- the groups of a number -/
def groups (z : Int) : List Int := grps (digs z.toNat)
theorem Can.groups (z : Int) : Can (groups z) := Can.grps (Plain.digs _)
theorem gval_groups {z : Int} (h : 0 ≤ z) : gval (groups z) = z := by
  unfold Num.groups; rw [gval_grps, num_digs]; omega

/-- the divisor times the factor has as many groups as the divisor -/
theorem scaled_length {ys D : List Int} {t : Nat} {F : Int} (hy : Can ys) (hyl : ys.length = t + 1) (hF : F = 1000000000 / (ys.getD t 0 + 1)) (hD : Can D) (hg : gval D = gval ys * F) :
    D.length = t + 1 ∧ 1 ≤ F ∧ F ≤ 500000000 := by
  have hd := hy.last_pos hyl
  have hb := (hy.1.getD t).2
  unfold B at hb
  have h1 : F * (ys.getD t 0 + 1) ≤ 1000000000 := by rw [hF]; exact Int.ediv_mul_le _ (by omega)
  have hF1 : 1 ≤ F := by rw [hF]; exact Int.le_ediv_of_mul_le (by omega) (by omega)
  have hF2 : F ≤ 500000000 := by
    have := Int.mul_le_mul_of_nonneg_left (show 2 ≤ ys.getD t 0 + 1 by omega) (show 0 ≤ F by omega); omega
  refine ⟨?_, hF1, hF2⟩
  have hY0 : ys ≠ [] := by rintro rfl; simp at hyl
  have eY : gval ys = gval (ys.take t) + B ^ t * ys.getD t 0 := by
    have := gval_take_succ ys t
    rw [List.take_of_length_le (by omega)] at this; exact this
  have hlt := gval_lt (hy.1.take t)
  rw [List.length_take, Nat.min_eq_left (by omega)] at hlt
  have hp := Bpow_pos t
  have hYlt : gval ys < B ^ t * (ys.getD t 0 + 1) := by rw [eY, Int.mul_add _ _ 1, Int.mul_one]; omega
  have hup : gval D < B ^ (t + 1) := by
    rw [hg, Int.pow_succ]
    have h2 := Int.mul_lt_mul_of_pos_right hYlt (show 0 < F by omega)
    have h3 : B ^ t * (ys.getD t 0 + 1) * F = B ^ t * (F * (ys.getD t 0 + 1)) := by rw [Int.mul_assoc, Int.mul_comm F]
    have h4 := Int.mul_le_mul_of_nonneg_left h1 (Int.le_of_lt hp)
    unfold B at *; omega
  have hYge := gval_ge hy hY0
  rw [hyl, Nat.add_sub_cancel] at hYge
  have hYpos := gval_pos hy hY0
  have hdn : B ^ t ≤ gval D := by
    rw [hg]
    have := Int.mul_le_mul_of_nonneg_left hF1 (Int.le_of_lt hYpos)
    omega
  have hD0 : D ≠ [] := by rintro rfl; simp [gval] at hdn; omega
  by_cases hl1 : D.length ≤ t
  · have := gval_lt hD.1
    have := Bpow_mono hl1; omega
  · by_cases hl2 : t + 2 ≤ D.length
    · have h5 := gval_ge hD hD0
      have := Bpow_mono (show t + 1 ≤ D.length - 1 by omega); omega
    · omega

/-- the places of the quotient from k on are done -/
structure DivInv (XF : Int) (D : List Int) (n t k : Nat) (Z Q : List Int) : Prop where
  zlen : Z.length = n + 1
  qlen : Q.length = n - t
  znorm : Norm Z
  qnorm : Norm Q
  eq : XF = gval Z + B ^ k * gval (Q.drop k) * gval D
  lt : gval (Z.drop k) < gval D

theorem gval_drop (Z : List Int) (k : Nat) (h : k ≤ Z.length) : gval Z = gval (Z.take k) + B ^ k * gval (Z.drop k) := by
  conv => lhs; rw [← List.take_append_drop k Z, gval_append, List.length_take, Nat.min_eq_left h]

theorem DivInv.start {xs ys D Z : List Int} {n t : Nat} {F : Int} (hx : Norm xs) (hxl : xs.length = n) (hy : Can ys) (hyl : ys.length = t + 1) (hnt : t + 1 ≤ n) (hF : 1 ≤ F) (hD : gval D = gval ys * F)
    (hZ : Norm Z) (hZl : Z.length = n + 1) (hg : gval Z = gval xs * F) : DivInv (gval xs * F) D n t (n - t) Z (List.replicate (n - t) 0) := by
  refine ⟨hZl, by simp, hZ, Norm.zeros _, ?_, ?_⟩
  · rw [List.drop_of_length_le (by simp), hg]; simp [gval]
  · have hX := gval_lt hx
    rw [hxl] at hX
    have hY0 : ys ≠ [] := by rintro rfl; simp at hyl
    have hYge := gval_ge hy hY0
    rw [hyl, Nat.add_sub_cancel] at hYge
    by_cases hc : gval (Z.drop (n - t)) < gval D
    · exact hc
    · exfalso
      have h1 := gval_drop Z (n - t) (by omega)
      have h2 := gval_nonneg (hZ.take (n - t))
      have hp := Bpow_pos (n - t)
      have h3 := Int.mul_le_mul_of_nonneg_left (show gval D ≤ gval (Z.drop (n - t)) by omega) (Int.le_of_lt hp)
      have h4 : B ^ n * F ≤ B ^ (n - t) * gval D := by
        rw [hD, ← Int.mul_assoc]
        refine Int.mul_le_mul_of_nonneg_right ?_ (by omega)
        have := Int.mul_le_mul_of_nonneg_left hYge (Int.le_of_lt hp)
        rw [← Int.pow_add, show n - t + t = n by omega] at this
        exact this
      have h5 := Int.mul_lt_mul_of_pos_right hX (show 0 < F by omega)
      omega

theorem gval_cons_part {Z : List Int} {i m : Nat} (h : i < Z.length) : gval (part Z i (m + 1)) = Z.getD i 0 + B * gval (part Z (i + 1) m) := by
  unfold part
  rw [List.drop_eq_getElem_cons h, List.take_succ_cons]
  simp [gval, List.getD, h]

theorem DivInv.seg_lt {XF : Int} {D : List Int} {n t i : Nat} {Z Q : List Int} (h : DivInv XF D n t (i + 1) Z Q) (hi : i < n - t) : gval (part Z i (t + 2)) < B * gval D := by
  have hl := h.zlen
  have h1 := gval_drop (Z.drop (i + 1)) (t + 1) (by simp; omega)
  have h2 := gval_nonneg ((h.znorm.drop (i + 1)).drop (t + 1))
  have h3 := Int.mul_nonneg (Int.le_of_lt (Bpow_pos (t + 1))) h2
  have h4 := h.lt
  have hz := h.znorm.getD i
  rw [gval_cons_part (by omega)]
  unfold part
  unfold B at *
  omega

theorem DivInv.step {XF : Int} {D : List Int} {n t i : Nat} {Z Q ws : List Int} {q : Int} (h : DivInv XF D n t (i + 1) Z Q) (hi : i < n - t) (hD : Can D) (hDl : D.length = t + 1)
    (hwl : ws.length = t + 2) (hwn : Norm ws) (hq : q = gval (part Z i (t + 2)) / gval D) (hw : gval ws = gval (part Z i (t + 2)) - q * gval D) (hlt : gval ws < gval D) :
    DivInv XF D n t i (put Z i ws) (Q.set i q) := by
  have hl := h.zlen
  have hql := h.qlen
  have hDpos : 0 < gval D := gval_pos hD (by rintro rfl; simp at hDl)
  have hsn := gval_nonneg (h.znorm.part i (t + 2))
  have q0 : 0 ≤ q := by rw [hq]; exact Int.ediv_nonneg hsn (by omega)
  have q1 : q < B := by rw [hq]; exact Int.ediv_lt_of_lt_mul hDpos (h.seg_lt hi)
  refine ⟨by rw [put_length (by omega)]; exact hl, by simp [hql], h.znorm.put hwn i, ?_, ?_, ?_⟩
  · intro z hz
    rcases List.mem_or_eq_of_mem_set hz with hz | rfl
    · exact h.qnorm z hz
    · exact ⟨q0, q1⟩
  · rw [gval_put (by omega), hwl, hw]
    rw [List.drop_eq_getElem_cons (show i < (Q.set i q).length by rw [List.length_set]; omega)]
    rw [show (Q.set i q).drop (i + 1) = Q.drop (i + 1) by rw [List.drop_set_of_lt (by omega)]]
    simp only [gval, List.getElem_set_self]
    have he := h.eq
    rw [Int.pow_succ] at he
    rw [he, Int.mul_add, Int.add_mul]
    have e1 : B ^ i * (gval (part Z i (t + 2)) - q * gval D - gval (part Z i (t + 2))) = -(B ^ i * q * gval D) := by
      rw [show gval (part Z i (t + 2)) - q * gval D - gval (part Z i (t + 2)) = -(q * gval D) by omega, Int.mul_neg, Int.mul_assoc]
    have e2 : B ^ i * (B * gval (List.drop (i + 1) Q)) = B ^ i * B * gval (List.drop (i + 1) Q) := by rw [Int.mul_assoc]
    rw [e1, e2]
    omega
  · have hZd : (put Z i ws).drop i = ws ++ Z.drop (i + (t + 2)) := by
      have e : (Z.take i).length = i := by simp; omega
      unfold put
      conv => lhs; arg 1; rw [← e]
      rw [List.drop_left, hwl]
    rw [hZd, gval_append, hwl]
    have h1 := gval_drop (Z.drop (i + 1)) (t + 1) (by simp; omega)
    have h2 := gval_nonneg ((h.znorm.drop (i + 1)).take (t + 1))
    have h4 := h.lt
    have hDlt := gval_lt hD.1
    rw [hDl] at hDlt
    rw [List.drop_drop, show i + 1 + (t + 1) = i + (t + 2) by omega] at h1
    have h5 : gval (Z.drop (i + (t + 2))) = 0 := by
      have h6 := gval_nonneg (h.znorm.drop (i + (t + 2)))
      by_cases hc : 1 ≤ gval (Z.drop (i + (t + 2)))
      · have := Int.mul_le_mul_of_nonneg_left hc (Int.le_of_lt (Bpow_pos (t + 1))); omega
      · omega
    rw [h5]; omega

/-- the end: quotient and remainder -/
theorem DivInv.done {X Y F : Int} {D : List Int} {n t : Nat} {Z Q : List Int} (h : DivInv (X * F) D n t 0 Z Q) (hD : gval D = Y * F) (hF : 1 ≤ F) :
    ∃ rs, Can rs ∧ gval Z = gval rs * F ∧ X = gval (trimmed Q) * Y + gval rs ∧ gval rs < Y := by
  have he := h.eq
  have hlt := h.lt
  simp only [List.drop_zero, Int.pow_zero, Int.one_mul] at he hlt
  rw [hD] at he hlt
  have hz := gval_nonneg h.znorm
  have e1 : gval Z = (X - gval Q * Y) * F := by rw [Int.sub_mul, Int.mul_assoc]; omega
  have hr0 : 0 ≤ X - gval Q * Y := by
    by_cases hc : X - gval Q * Y ≤ -1
    · have := Int.mul_le_mul_of_nonneg_right hc (show 0 ≤ F by omega); omega
    · omega
  have hr1 : X - gval Q * Y < Y := by
    rw [e1] at hlt
    exact Int.lt_of_mul_lt_mul_right hlt (by omega)
  refine ⟨groups (X - gval Q * Y), Can.groups _, ?_, ?_, ?_⟩
  · rw [gval_groups hr0]; exact e1
  · rw [gval_groups hr0, gval_trimmed]; omega
  · rw [gval_groups hr0]; exact hr1

end Go.Proofs.YthhihdihkddakaaGreatDoor.Num

/- integer.divide: the walk. -/
namespace Go.Proofs.YthhihdihkddakaaGreatDoor
open Go.RowKit
open Num (put)

/-- what divide leaves: quotient (perhaps nil) and remainder -/
def Divided (w : World) (xs ys : List Int) (e : Ending) (w' : World) : Prop :=
  ∃ qs rs qa qcap rb ro rcap, e = .returned (.tuple #[.slice qa qs.length qcap, .slice (some ⟨rb, ro, none⟩) rs.length rcap]) ∧ Num.Can qs ∧ Num.Can rs ∧
    Num.gval xs = Num.gval qs * Num.gval ys + Num.gval rs ∧ Num.gval rs < Num.gval ys ∧
    (0 < qs.length → ∃ b o, qa = some ⟨b, o, none⟩ ∧ Sl w' b o qcap qs) ∧ Sl w' rb ro rcap rs ∧ qs.length ≤ xs.length ∧ rs.length ≤ xs.length + 1 ∧ Below w.heap.size w w'

set_option maxRecDepth 100000 in
set_option maxHeartbeats 1000000 in
theorem divide_less (w : World) (b o cap ob oy capy n m : Nat) (xs ys : List Int) (hn : xs.length = n) (hm : ys.length = m) (hx : Sl w b o cap xs) (hy : Sl w ob oy capy ys) (cx : Num.Can xs) (cy : Num.Can ys)
    (hlt : Num.gval xs < Num.gval ys) :
    Calls Tryz.prog 121 #[.slice (some ⟨b, o, none⟩) n cap, .slice (some ⟨ob, oy, none⟩) m capy] w (Divided w xs ys) := by
  have hc := cmp3_lt hlt
  have HN := Lib.hid hn
  have HM := Lib.hid hm
  have HC := Lib.hid hc
  clear hn hm hc
  go_enter Tryz.func121, Tryz.ntmps121
  go_wp2_with fail
  refine (compareGroups_any w b o cap ob oy capy n m xs ys HN.out HM.out hx hy cx cy).mono ?_
  rintro e w1 ⟨rfl, k, rfl⟩
  rw [HC.out]
  go_wp2_with fail
  go_ret2
  exact ⟨[], xs, none, 0, b, o, cap, by rw [HN.out]; rfl, Num.Can.nil, cx, by simp [Num.gval], hlt, fun h => by simp at h, hx.drewN k, by simp, by omega, below_drewN (Below.refl _ _) k⟩

theorem one_sl (w : World) (z : Int) : Sl (w.alloc (.cells #[.int .i64 z] 3)) w.heap.size 0 1 [z] := by
  have h : Row (w.alloc (.cells #[.int .i64 z] 3)) w.heap.size [z] := by unfold Row; rw [heap_alloc_new]; rfl
  exact h.sl (Nat.le_refl _) (by omega)

/-- what multiplying by one group leaves -/
def Times (w : World) (xs : List Int) (F : Int) (l : Nat) (e : Ending) (w' : World) : Prop :=
  ∃ bz Z, e = .returned (.slice (some ⟨bz, 0, none⟩) l l) ∧ w.heap.size ≤ bz ∧ Row w' bz Z ∧ Z.length = l ∧ Num.Norm Z ∧ Num.gval Z = Num.gval xs * F ∧ Below w.heap.size w w'

theorem times_any (w : World) (b o cap g n : Nat) (F : Int) (xs : List Int) (hn : xs.length = n) (hx : Sl w b o cap xs) (hg : Sl w g 0 1 [F]) (cx : Num.Norm xs) (hF : 1 ≤ F ∧ F ≤ 500000000) (hlim : n ≤ 1000000000) :
    Calls Tryz.prog 90 #[.slice (some ⟨b, o, none⟩) n cap, .slice (some ⟨g, 0, none⟩) 1 1] w (Times w xs F (n + 1)) := by
  refine (multiply_any w b o cap g 0 1 n 1 xs [F] hn rfl hx hg cx (Num.Norm.one (by omega) (by unfold Num.B; omega)) (by omega)).mono ?_
  rintro e w' ⟨Z, rfl, h1, h2, h3, h4, h5⟩
  rw [hn] at h2 ⊢
  exact ⟨w.heap.size, Z, rfl, Nat.le_refl _, h1, h2, h3, by rw [h4, Num.gval_one], h5⟩

set_option maxRecDepth 100000 in
set_option maxHeartbeats 2000000 in
theorem divide_more (w : World) (b o cap ob oy capy n m t : Nat) (xs ys : List Int) (hn : xs.length = n) (hm : ys.length = m) (hmt : m = t + 1) (hx : Sl w b o cap xs) (hy : Sl w ob oy capy ys) (cx : Num.Can xs) (cy : Num.Can ys)
    (hge : ¬ Num.gval xs < Num.gval ys) (hlim : n ≤ 999999990) :
    Calls Tryz.prog 121 #[.slice (some ⟨b, o, none⟩) n cap, .slice (some ⟨ob, oy, none⟩) m capy] w (Divided w xs ys) := by
  subst hmt
  have hnm : t + 1 ≤ n := by
    by_cases h : n < t + 1
    · exact absurd (Num.gval_lt_of_length cx cy (by omega)) hge
    · omega
  have hc : ¬ cmp3 (Num.gval xs) (Num.gval ys) < 0 := by
    unfold cmp3; rw [if_neg hge]; split <;> omega
  obtain ⟨c, hcc⟩ : ∃ c, c = cmp3 (Num.gval xs) (Num.gval ys) := ⟨_, rfl⟩
  rw [← hcc] at hc
  obtain ⟨d, hd⟩ : ∃ d, d = ys.getD t 0 := ⟨_, rfl⟩
  have cd : w.cell? ⟨ob, oy + t, none⟩ = some (.int .i64 d) := by rw [hd]; exact hy.cell t (by omega)
  have hd0 : 0 < d := by rw [hd]; exact cy.last_pos hm
  have hd1 : d < 1000000000 := by rw [hd]; exact (cy.1.getD t).2
  obtain ⟨F, hF⟩ : ∃ F, 1000000000 / (d + 1) = F := ⟨_, rfl⟩
  obtain ⟨DD, hDD⟩ : ∃ DD, DD = Num.groups (Num.gval ys * F) := ⟨_, rfl⟩
  have hYpos := Num.gval_pos cy (by rintro rfl; simp at hm)
  have hF0 : 0 ≤ F := by rw [← hF]; exact Int.ediv_nonneg (by omega) (by omega)
  have hDg : Num.gval DD = Num.gval ys * F := by rw [hDD]; exact Num.gval_groups (Int.mul_nonneg (by omega) hF0)
  have hDc : Num.Can DD := by rw [hDD]; exact Num.Can.groups _
  have hsc := Num.scaled_length cy hm (by rw [← hd]; exact hF.symm) hDc hDg
  have hF1 := hsc.2
  have HN := Lib.hid hn
  have HM := Lib.hid hm
  have HC := Lib.hid hcc
  have HD := Lib.hid hd
  have HDg := Lib.hid hDg
  have HDl := Lib.hid hsc.1
  clear hn hm hcc hd hDD hDg hsc
  go_enter Tryz.func121, Tryz.ntmps121
  go_wp2_with fail
  refine (compareGroups_any w b o cap ob oy capy n (t + 1) xs ys HN.out HM.out hx hy cx cy).mono ?_
  rintro e w1 ⟨rfl, k, rfl⟩
  rw [← HC.out]
  go_wp2_with fail
  rw [hF]
  have HF := Lib.hid hF
  clear hF
  obtain ⟨W1, hW1⟩ : ∃ W1, W1 = (w.drewN k).alloc (.cells #[.int .i64 F] 3) := ⟨_, rfl⟩
  have hB1 : Below w.heap.size w W1 := by rw [hW1]; exact (below_drewN (Below.refl _ _) k).alloc (Nat.le_refl _) _
  have hs1 : Sl W1 w.heap.size 0 1 [F] := by rw [hW1]; exact one_sl (w.drewN k) F
  rw [← hW1]
  clear hW1
  refine (times_any W1 b o cap w.heap.size n F xs HN.out (hx.below hB1 hx.lt) hs1 cx.1 hF1 (by omega)).mono ?_
  rintro e W2 ⟨bz, Z, rfl, hbz, hrow, hzl, hzn, hzg, hB2⟩
  have hB2 : Below w.heap.size w W2 := hB1.trans (hB2.mono hB1.size)
  have hbz1 : w.heap.size ≤ bz := Nat.le_trans hB1.size hbz
  have HZL := Lib.hid hzl
  have HZG := Lib.hid hzg
  have HR := Lib.hid hrow
  clear hs1 hB1 hzl hzg hrow hbz
  go_wp2_with fail
  obtain ⟨W3, hW3⟩ : ∃ W3, W3 = W2.alloc (.cells #[.int .i64 F] 3) := ⟨_, rfl⟩
  have hB3 : Below W2.heap.size W2 W3 := by rw [hW3]; exact (Below.refl _ _).alloc (Nat.le_refl _) _
  have hs3 : Sl W3 W2.heap.size 0 1 [F] := by rw [hW3]; exact one_sl W2 F
  rw [← hW3]
  clear hW3
  refine (times_any W3 ob oy capy W2.heap.size (t + 1) F ys HM.out ((hy.below hB2 hy.lt).below hB3 (Nat.lt_of_lt_of_le hy.lt hB2.size)) hs3 cy.1 hF1 (by omega)).mono ?_
  rintro e W4 ⟨bd, ZD, rfl, hbd, hrowd, hzdl, hzdn, hzdg, hB4⟩
  have hB42 : Below W2.heap.size W2 W4 := hB3.trans (hB4.mono hB3.size)
  have hB : Below w.heap.size w W4 := hB2.trans (hB42.mono hB2.size)
  have hrz : Row W4 bz Z := HR.out.below hB42 HR.out.lt
  have hzd : bz < bd := by have := HR.out.lt; have := hB3.size; omega
  have htr : Num.trimmed ZD = DD := Num.gval_inj (Num.Can.trimmed hzdn) hDc (by rw [Num.gval_trimmed, hzdg, HDg.out])
  have hpre : DD <+: ZD := by rw [← htr]; exact Num.trimmed_prefix ZD
  have hsd : Sl W4 bd 0 (t + 1 + 1) DD := hrowd.prefix hpre (by rw [HDl.out]; omega) (by omega)
  have hsz : Sl W4 bd 0 (t + 1 + 1) ZD := hrowd.sl (by omega) (by omega)
  have HTR := Lib.hid htr
  have HZDL := Lib.hid hzdl
  have HRZ := Lib.hid hrz
  clear htr hpre hzdl hrz hzdg hzdn hrowd hB42 hB4 hB3 hs3 HR hB2
  go_wp2_with fail
  refine (trim_any W4 bd 0 (t + 1 + 1) (t + 1 + 1) ZD HZDL.out hsz).mono ?_
  rintro e W5 ⟨rfl, rfl⟩
  rw [HTR.out, HDl.out]
  have hmk := run_makeInts (n - t) (by omega)
  rw [show ((n - t : Nat) : Int) = (n : Int) - (t + 1) + 1 by omega] at hmk
  clear hsz
  go_wp2_with fail
  obtain ⟨qb, hqb⟩ : ∃ qb, qb = W4.heap.size := ⟨_, rfl⟩
  have hqz : bz < qb := by rw [hqb]; exact HRZ.out.lt
  have hqd : bd < qb := by rw [hqb]; exact hsd.lt
  have hqw : w.heap.size ≤ qb := by rw [hqb]; exact hB.size
  have hdw : w.heap.size ≤ bd := by omega
  have hstart := Num.DivInv.start cx.1 HN.out cy HM.out hnm hF1.1 HDg.out hzn HZL.out HZG.out
  have hQ0 : Row (W4.alloc (zeroRow (n - t))) qb (List.replicate (n - t) 0) := by rw [hqb]; exact Row.made W4 _
  have hZ0 : Row (W4.alloc (zeroRow (n - t))) bz Z := HRZ.out.alloc _
  have hD0 : Sl (W4.alloc (zeroRow (n - t))) bd 0 (t + 1 + 1) DD := hsd.alloc _
  have hB0 : Below w.heap.size w (W4.alloc (zeroRow (n - t))) := hB.alloc hB.size _
  rw [← hqb]
  have HS := Lib.hid (And.intro hstart (And.intro hQ0 (And.intro hZ0 (And.intro hD0 hB0))))
  clear hstart hQ0 hZ0 hD0 hB0 hmk hsd HRZ hqb
  go_loopw [10] (fun iv wr => ∃ (k : Nat) (Z Q : List Int), k ≤ n - t ∧ iv = .int .i64 ((k : Int) - 1) ∧ Num.DivInv (Num.gval xs * F) DD n t k Z Q ∧ Row wr qb Q ∧ Row wr bz Z ∧ Sl wr bd 0 (t + 1 + 1) DD ∧ Below w.heap.size w wr) (fun iv _ => (intOf iv + 1).toNat)
  case atStart => exact ⟨n - t, Z, _, Nat.le_refl _, rfl, HS.out.1, HS.out.2.1, HS.out.2.2.1, HS.out.2.2.2.1, HS.out.2.2.2.2⟩
  case round =>
    clear HS hB
    obtain ⟨k, Z, Q, hk, rfl, hinv, hrq, hrz, hsd, hB⟩ := hrel
    have HI := Lib.hid hinv
    have HRQ := Lib.hid hrq
    have HRZ := Lib.hid hrz
    have HSD := Lib.hid hsd
    have HB := Lib.hid hB
    clear hinv hrq hrz hsd hB
    by_cases h0 : k = 0
    · subst h0
      obtain ⟨rs, hrc, hrg, hrx, hrl⟩ := HI.out.done HDg.out hF1.1
      have htq := HRQ.out.prefix (Num.trimmed_prefix Q) (cap := n - t) (by have := (Num.trimmed_prefix Q).length_le; have := HI.out.qlen; omega) (by omega)
      have hlq := HI.out.qlen
      have hlz := HI.out.zlen
      have hrsl : rs.length ≤ n := by
        by_cases hh : ys.length < rs.length
        · have := Num.gval_lt_of_length cy hrc hh; omega
        · have := HM.out; omega
      have hqsl : (Num.trimmed Q).length ≤ n := by have := (Num.trimmed_prefix Q).length_le; omega
      have HX := Lib.hid (And.intro hrc (And.intro hrg (And.intro hrx (And.intro hrl (And.intro htq (And.intro hlq (And.intro hlz (And.intro hrsl hqsl))))))))
      clear hrc hrg hrx hrl htq hlq hlz hrsl hqsl
      go_wp2_with fail
      refine (trim_any wr qb 0 (n - t) (n - t) Q HX.out.2.2.2.2.2.1 (HRQ.out.sl (by rw [HX.out.2.2.2.2.2.1]; omega) (by omega))).mono ?_
      rintro e W7 ⟨rfl, rfl⟩
      go_wp2_with fail
      refine (shrink_any F wr bz 0 (n + 1) (n + 1) Z rs HX.out.2.2.2.2.2.2.1 (HRZ.out.sl (by rw [HX.out.2.2.2.2.2.2.1]; omega) (by omega)) HI.out.znorm (by omega) HX.out.1 HX.out.2.1 (by omega)).mono ?_
      rintro e W8 ⟨br, rcap, rfl, hsr, hbr, hB8⟩
      go_wp2_with fail
      go_ret2
      exact ⟨Num.trimmed Q, rs, some ⟨qb, 0, none⟩, n - t, br, 0, rcap, rfl, Num.Can.trimmed HI.out.qnorm, HX.out.1, HX.out.2.2.1, HX.out.2.2.2.1, fun _ => ⟨qb, 0, rfl, HX.out.2.2.2.2.1.below hB8 HRQ.out.lt⟩, hsr, by rw [HN.out]; exact HX.out.2.2.2.2.2.2.2.2, by rw [HN.out]; have := HX.out.2.2.2.2.2.2.2.1; omega, HB.out.trans (hB8.mono HB.out.size)⟩
    · obtain ⟨j, rfl⟩ : ∃ j, k = j + 1 := ⟨k - 1, by omega⟩
      rw [show ((j + 1 : Nat) : Int) - 1 = (j : Int) by omega]
      have hzl := HI.out.zlen
      have hql := HI.out.qlen
      have HZl := Lib.hid hzl
      have HQl := Lib.hid hql
      clear hzl hql
      go_wp2_with fail
      rw [show j + (t + 1) + 1 - j = t + 2 by omega]
      refine (reduce_any wr bz j (t + 2) (n + 1 - j) bd 0 (t + 1 + 1) (t + 1) t Z DD rfl rfl HRZ.out HSD.out (by omega) (by have := HZl.out; omega) (by have := HZl.out; omega) HI.out.znorm hDc HDl.out (HI.out.seg_lt (by omega))).mono ?_
      rintro e w2 ⟨q, ws, rfl, hrow2, hwl, hwn, hq, hw, _, hlt2, hg2⟩
      have hstep := HI.out.step (by omega) hDc HDl.out hwl hwn hq hw hlt2
      have hrq2 : Row w2 qb Q := HRQ.out.grown hg2 (by simp; omega)
      have hsd2 : Sl w2 bd 0 (t + 1 + 1) DD := HSD.out.grown hg2 (by simp; omega)
      have hB2 : Below w.heap.size w w2 := below_of_grown HB.out hg2 hbz1
      have hf : w2.frozen? ⟨qb, j, none⟩ = false := hrq2.frozen j
      obtain ⟨v0, hv0⟩ : ∃ v0, w2.cell? ⟨qb, j, none⟩ = some (.int .i64 v0) := ⟨_, hrq2.cell (by have := HQl.out; omega)⟩
      have HST := Lib.hid hstep
      have HRQ2 := Lib.hid hrq2
      have HRZ2 := Lib.hid hrow2
      have HSD2 := Lib.hid hsd2
      have HB2 := Lib.hid hB2
      clear hstep hrq2 hsd2 hB2 hrow2 hg2 hq hw hwl hwn hlt2
      go_wp2_with fail
      go_roundw
      case rel => exact ⟨j, _, _, by omega, rfl, HST.out, HRQ2.out.set _ _, HRZ2.out.setOther (by simp; omega) _, HSD2.out.setOther (by simp; omega) _, HB2.out.setCell (p := ⟨qb, j, none⟩) hqw _⟩
      case measure => simp [intOf]

theorem divide_any (w : World) (b o cap ob oy capy n m : Nat) (xs ys : List Int) (hn : xs.length = n) (hm : ys.length = m) (hx : Sl w b o cap xs) (hy : Sl w ob oy capy ys) (cx : Num.Can xs) (cy : Num.Can ys)
    (h0 : m ≠ 0) (hlim : n ≤ 999999990) :
    Calls Tryz.prog 121 #[.slice (some ⟨b, o, none⟩) n cap, .slice (some ⟨ob, oy, none⟩) m capy] w (Divided w xs ys) := by
  by_cases hlt : Num.gval xs < Num.gval ys
  · exact divide_less w b o cap ob oy capy n m xs ys hn hm hx hy cx cy hlt
  · obtain ⟨t, rfl⟩ : ∃ t, m = t + 1 := ⟨m - 1, by omega⟩
    exact divide_more w b o cap ob oy capy n (t + 1) t xs ys hn hm rfl hx hy cx cy hlt hlim

end Go.Proofs.YthhihdihkddakaaGreatDoor

/- integer.read: the walk. -/
namespace Go.Proofs.YthhihdihkddakaaGreatDoor
open Go.RowKit

/-- the groups of the value of a string -/
def gS (s : ByteArray) : List Int := Num.grps (Num.sdig s.data.toList)
theorem gS_can (s : ByteArray) : Num.Can (gS s) := Num.Can.grps (Num.Plain.sdig _)
theorem gS_val (s : ByteArray) : Num.gval (gS s) = (vS s).natAbs := by
  unfold gS vS; rw [Num.gval_grps, Num.natAbs_val]; rfl

/-- a row while it is filled: the groups ahead of i, v, and zeros -/
def rowAt (G : List Int) (i : Nat) (v : Int) : List Int := G.take i ++ v :: List.replicate (G.length - i - 1) 0

theorem rowAt_zero (G : List Int) (i : Nat) (h : i < G.length) : G.take i ++ List.replicate (G.length - i) 0 = rowAt G i 0 := by
  unfold rowAt
  rw [show G.length - i = G.length - i - 1 + 1 by omega, List.replicate_succ]; rfl
theorem rowAt_length (G : List Int) (i : Nat) (v : Int) (h : i < G.length) : (rowAt G i v).length = G.length := by
  simp [rowAt]; omega
theorem rowAt_set (G : List Int) (i : Nat) (v u : Int) (h : i < G.length) : (rowAt G i v).set i u = rowAt G i u := by
  unfold rowAt
  rw [List.set_append_right _ _ (by simp; omega), show i - (List.take i G).length = 0 by simp; omega]; rfl
theorem rowAt_getD (G : List Int) (i : Nat) (v : Int) (h : i < G.length) : (rowAt G i v).getD i 0 = v := by
  unfold rowAt
  simp only [List.getD_eq_getElem?_getD]
  rw [List.getElem?_append_right (by simp; omega), show i - (List.take i G).length = 0 by simp; omega]; rfl
theorem rowAt_done (G : List Int) (i : Nat) (h : i < G.length) : rowAt G i (G.getD i 0) = G.take (i + 1) ++ List.replicate (G.length - (i + 1)) 0 := by
  unfold rowAt
  rw [List.take_succ_eq_append_getElem h, List.append_assoc]
  simp [List.getD, h, Nat.sub_sub]

/-- the digits from st on, up to j -/
def span (d : List UInt8) (st j : Nat) : List UInt8 := (d.take j).drop st
theorem span_succ {d : List UInt8} {st j : Nat} (h1 : st ≤ j) (h2 : j < d.length) : span d st (j + 1) = span d st j ++ [d[j]] := by
  unfold span
  rw [List.take_succ_eq_append_getElem h2, List.drop_append_of_le_length (by simp; omega)]
theorem span_nil (d : List UInt8) (st : Nat) : span d st st = [] := by
  unfold span; rw [List.drop_of_length_le (by simp; omega)]
theorem span_small {d : List UInt8} (h : d.all Num.isDig = true) {st j : Nat} (hj : j < st + 9) : Num.num (span d st j) < 100000000 := by
  have ha : (span d st j).all Num.isDig = true := by
    rw [List.all_eq_true] at *
    intro c hc
    exact h c (List.mem_of_mem_take (List.mem_of_mem_drop hc))
  have h1 := Num.num_lt _ ha
  have h2 : (span d st j).length ≤ 8 := by simp [span]; omega
  have := Nat.pow_le_pow_right (show 1 ≤ 10 by decide) h2
  omega

/-- what read leaves -/
def ReadPost (w : World) (s : ByteArray) (e : Ending) (w' : World) : Prop :=
  ∃ b cap, e = .returned (.tuple #[.bool (Num.sneg s.data.toList), .slice (some ⟨b, 0, none⟩) (gS s).length cap]) ∧ Sl w' b 0 cap (gS s) ∧ w.heap.size ≤ b ∧ Below w.heap.size w w'

set_option maxRecDepth 100000 in
set_option maxHeartbeats 2000000 in
theorem read_any (s : ByteArray) (w : World) (hs : s.size ≤ 4294967296) :
    Calls Tryz.prog 87 #[.string s] w (ReadPost w s) := by
  have hm := lim_max hs
  obtain ⟨D, hD⟩ : ∃ D : ByteArray, ByteArray.mk (Num.sdig s.data.toList).toArray = D := ⟨_, rfl⟩
  have hDl : D.data.toList = Num.sdig s.data.toList := by rw [← hD]
  have hdl : D.size ≤ 4294967296 := by
    have := Num.sdig_length s.data.toList
    rw [← hDl, size_toList, size_toList] at this; omega
  have hall : D.data.toList.all Num.isDig = true := by rw [hDl]; exact (Num.Plain.sdig _).1
  have hG : gS s = Num.grps D.data.toList := by unfold gS; rw [hDl]
  have hGl : (gS s).length = (D.size + 8) / 9 := by rw [hG, Num.grps_length, size_toList]
  obtain ⟨K, hK⟩ : ∃ K, K = (D.size + 8) / 9 := ⟨_, rfl⟩
  have hmk := run_makeInts K (by omega)
  rw [show (K : Int) = ((D.size : Int) + 9 - 1) / 9 by omega] at hmk
  have hKb : K ≤ 4294967296 ∧ K * 9 ≤ D.size + 8 := by omega
  obtain ⟨G, hGG⟩ : ∃ G, G = gS s := ⟨_, rfl⟩
  have HGG := Lib.hid hGG
  have HG := Lib.hid hG
  have HGl := Lib.hid hGl
  have HK := Lib.hid hK
  have HA := Lib.hid hall
  clear hDl hall hG hGl hK hGG
  go_enter Tryz.func87, Tryz.ntmps87
  go_wp2_with fail
  refine (split_any s _ hm).mono ?_
  rintro e w1 ⟨rfl, rfl⟩
  rw [hD]
  clear hD
  go_wp2_with fail
  have hGK : G.length = K := by rw [HGG.out, HGl.out, HK.out]
  have hst : Row (w.alloc (zeroRow K)) w.heap.size (G.take 0 ++ List.replicate (G.length - 0) 0) := by rw [hGK]; simpa using Row.made w K
  have HS := Lib.hid hst
  have HGK := Lib.hid hGK
  clear hst hGK hmk
  go_loopw [23] (fun iv wr => ∃ i : Nat, i ≤ K ∧ iv = .int .i64 i ∧ Row wr w.heap.size (G.take i ++ List.replicate (G.length - i) 0) ∧ Below w.heap.size w wr) (fun iv _ => K - (intOf iv).toNat)
  case atStart => exact ⟨0, Nat.zero_le _, rfl, HS.out, (Below.refl _ _).alloc (Nat.le_refl _) _⟩
  case round =>
    clear HS
    obtain ⟨i, hi, rfl, hrow, hB⟩ := hrel
    have HR := Lib.hid hrow
    have HB := Lib.hid hB
    clear hrow hB
    obtain ⟨wo, hwo⟩ : ∃ wo, wo = wr := ⟨_, rfl⟩
    by_cases hlt : i < K
    · obtain ⟨en, hen⟩ : ∃ en, en = D.size - 9 * i := ⟨_, rfl⟩
      obtain ⟨st, hst⟩ : ∃ st, st = D.size - 9 * (i + 1) := ⟨_, rfl⟩
      have hse : st ≤ en ∧ en ≤ st + 9 ∧ en ≤ D.size ∧ (en : Int) = (D.size : Int) - (i : Int) * 9 ∧ (st : Int) = max 0 ((D.size : Int) - (i : Int) * 9 - 9) := by omega
      have HE := Lib.hid hse
      have hse1 : st ≤ en ∧ en ≤ st + 9 ∧ en ≤ D.size := ⟨hse.1, hse.2.1, hse.2.2.1⟩
      have HEN := Lib.hid (And.intro hen hst)
      clear hen hst hse
      have hr0 : Row wr w.heap.size (rowAt G i (Num.num (span D.data.toList st st))) := by
        rw [span_nil]; have := HR.out; rw [rowAt_zero _ _ (by have := HGK.out; omega)] at this; exact this
      have HR0 := Lib.hid hr0
      clear hr0
      go_wp2_with fail
      go_loopw [9] (fun jv wq => ∃ j : Nat, st ≤ j ∧ j ≤ en ∧ jv = .int .i64 j ∧ Row wq w.heap.size (rowAt G i (Num.num (span D.data.toList st j))) ∧ Below w.heap.size w wq) (fun jv _ => en - (intOf jv).toNat)
      case atStart => exact ⟨st, Nat.le_refl _, hse1.1, by rw [HE.out.2.2.2.2], HR0.out, HB.out⟩
      case round =>
        clear HR0 HB HR
        obtain ⟨j, hj0, hj1, rfl, hrow, hB⟩ := hrel
        have hen := HE.out.2.2.2.1
        by_cases hj : j < en
        · have hjl : (j : Int) < (D.size : Int) - (i : Int) * 9 := by omega
          have hjD : j < D.size := by omega
          have hjD' : j < D.data.toList.length := by rw [size_toList]; exact hjD
          have hdig := (Num.isDig_iff (D.data.toList[j]'hjD')).1 (List.all_eq_true.1 HA.out _ (List.getElem_mem hjD'))
          have hby := byte_at D j hjD hjD'
          have hspan := span_succ (d := D.data.toList) hj0 hjD'
          have hcb : (48 : Int) ≤ ((D[j]'hjD).toNat : Int) ∧ ((D[j]'hjD).toNat : Int) ≤ 57 := by rw [← hby]; omega
          obtain ⟨v, hv⟩ : ∃ v : Int, v = (Num.num (span D.data.toList st j) : Int) := ⟨_, rfl⟩
          have hvb : 0 ≤ v ∧ v < 100000000 := by have := span_small HA.out (st := st) (j := j) (by omega); omega
          have hnext : ((Num.num (span D.data.toList st (j + 1)) : Nat) : Int) = v * 10 + (((D[j]'hjD).toNat : Int) - 48) := by
            rw [hspan, Num.num_snoc, hby, hv]; unfold Num.dv; omega
          have hf : wr.frozen? ⟨w.heap.size, i, none⟩ = false := hrow.frozen i
          have hc : wr.cell? ⟨w.heap.size, i, none⟩ = some (.int .i64 v) := by
            rw [hrow.cell (by rw [rowAt_length _ _ _ (by have := HGK.out; omega)]; have := HGK.out; omega), rowAt_getD _ _ _ (by have := HGK.out; omega), hv]
          have HR := Lib.hid hrow
          have HB := Lib.hid hB
          have HN := Lib.hid hnext
          clear hrow hB hnext hspan hby hdig hjD' hv hen
          go_wp2_with fail
          go_region
          go_wp2_with fail
          go_roundw
          case rel => exact ⟨j + 1, by omega, by omega, by go_num, by rw [HN.out, ← rowAt_set _ _ _ _ (by have := HGK.out; omega)]; exact HR.out.set _ _, (HB.out.setCell (p := ⟨w.heap.size, i, none⟩) (Nat.le_refl _) _).drew⟩
          case measure => simp [intOf]; omega
        · have hjl : ¬ (j : Int) < (D.size : Int) - (i : Int) * 9 := by omega
          have he : j = en := by omega
          have hrow2 : Row wr w.heap.size (G.take (i + 1) ++ List.replicate (G.length - (i + 1)) 0) := by
            rw [← rowAt_done _ _ (by have := HGK.out; omega)]
            have e : (Num.num (span D.data.toList st j) : Int) = G.getD i 0 := by
              have h1 := HEN.out
              rw [HGG.out, HG.out, he]
              have h2 : Num.grps D.data.toList = (List.range K).map fun i => (Num.num (Num.seg D.data.toList i) : Int) := by
                unfold Num.grps; rw [size_toList, HK.out]
              rw [h2]
              simp only [List.getD_eq_getElem?_getD]
              rw [List.getElem?_map, List.getElem?_range hlt]
              simp only [Option.map_some, Option.getD_some]
              unfold Num.seg span
              rw [size_toList, h1.1, h1.2]
            rw [← e]; exact hrow
          have HR := Lib.hid hrow2
          have HB := Lib.hid hB
          clear hrow hrow2 hB he hen
          go_wp2_with fail
          go_roundw
          case rel => exact ⟨i + 1, by omega, by go_num, HR.out, HB.out⟩
          case measure => simp [intOf]; omega
    · obtain rfl : i = K := by omega
      go_wp2_with fail
      go_ret2
      have hr := HR.out
      rw [List.take_of_length_le (by have := HGK.out; omega), show G.length - i = 0 by have := HGK.out; omega] at hr
      simp only [List.replicate_zero, List.append_nil] at hr
      refine ⟨w.heap.size, i, ?_, ?_, Nat.le_refl _, HB.out⟩
      · rw [HGl.out, ← HK.out]; rfl
      · rw [← HGG.out]; exact hr.sl (by have := HGK.out; omega) (by omega)
end Go.Proofs.YthhihdihkddakaaGreatDoor
