/- integer.reduce, shrink: walks. -/
import Derived.Test.YtldohkfomdcpoaaGreatDoorMul
import Derived.Test.YtldohkfomdcpoaaGreatDoorQuo
import Derived.RegionTactic
import Derived.BigRegion
namespace Go.Proofs.YtldohkfomdcpoaaGreatDoor
open Go.RowKit
open Num (Part put Filled RedInv)

/-- what reduce leaves: the quotient, and the remainder in the place of the number -/
def Reduced (w : World) (b o t : Nat) (Z D : List Int) (e : Ending) (w' : World) : Prop :=
  ∃ q ws, e = .returned (.int .i64 q) ∧ Row w' b (put Z o ws) ∧ ws.length = t + 2 ∧ Num.Norm ws ∧ q = Num.gval (Num.part Z o (t + 2)) / Num.gval D ∧
    Num.gval ws = Num.gval (Num.part Z o (t + 2)) - q * Num.gval D ∧ 0 ≤ Num.gval ws ∧ Num.gval ws < Num.gval D ∧ w.grownBy w' (some b)

set_option maxRecDepth 100000 in
set_option maxHeartbeats 1000000 in
theorem reduce_any (w : World) (b o m cap ob oy capy k t : Nat) (Z D : List Int) (hk : k = t + 1) (hm : m = t + 2) (hr : Row w b Z) (hy : Sl w ob oy capy D) (hne : ob ≠ b) (hom : o + m ≤ Z.length) (hZ : Z.length ≤ 1099511627776)
    (hn : Num.Norm Z) (hD : Num.Can D) (hDl : D.length = t + 1) (hlt : Num.gval (Num.part Z o (t + 2)) < Num.B * Num.gval D) :
    Calls Tryz.prog 106 #[.slice (some ⟨b, o, none⟩) m cap, .slice (some ⟨ob, oy, none⟩) k capy] w (Reduced w b o t Z D) := by
  subst hk hm
  obtain ⟨r1, hr1⟩ : ∃ r1, r1 = Z.getD (o + (t + 1)) 0 := ⟨_, rfl⟩
  obtain ⟨r0, hr0⟩ : ∃ r0, r0 = Z.getD (o + t) 0 := ⟨_, rfl⟩
  obtain ⟨d, hd⟩ : ∃ d, d = D.getD t 0 := ⟨_, rfl⟩
  have c1 : w.cell? ⟨b, o + (t + 1), none⟩ = some (.int .i64 r1) := by rw [hr1]; exact hr.cell (by omega)
  have c0 : w.cell? ⟨b, o + t, none⟩ = some (.int .i64 r0) := by rw [hr0]; exact hr.cell (by omega)
  have cd : w.cell? ⟨ob, oy + t, none⟩ = some (.int .i64 d) := by rw [hd]; exact hy.cell t (by omega)
  have hb1 := hn.getD (o + (t + 1))
  have hb0 := hn.getD (o + t)
  have hbd := hD.1.getD t
  rw [← hr1] at hb1
  rw [← hr0] at hb0
  rw [← hd] at hbd
  have hd0 : 0 < d := by rw [hd]; exact hD.last_pos hDl
  unfold Num.B at hb1 hb0 hbd
  obtain ⟨g, hg⟩ : ∃ g, min ((r1 * 1000000000 + r0) / d) 999999999 = g := ⟨_, rfl⟩
  have hq0 : 0 ≤ (r1 * 1000000000 + r0) / d := Int.ediv_nonneg (by omega) (by omega)
  have hgb : 0 ≤ g ∧ g ≤ 999999999 := by omega
  have hDpos : 0 < Num.gval D := Num.gval_pos hD (by rintro rfl; simp at hDl)
  have hsl : (Num.part Z o (t + 2)).length = t + 2 := Num.part_length (by omega)
  have hsn : Num.Norm (Num.part Z o (t + 2)) := hn.part o (t + 2)
  have hge : Num.gval (Num.part Z o (t + 2)) / Num.gval D ≤ g := by
    have h1 : Num.gval (Num.part Z o (t + 2)) / Num.gval D * Num.gval D ≤ Num.gval (Num.part Z o (t + 2)) := Int.ediv_mul_le _ (by omega)
    have h2 := Num.guess_ge hsn hsl hD.1 hDl (by rw [← hd]; exact hd0) h1 (Int.ediv_nonneg (Num.gval_nonneg hsn) (by omega))
    rw [Num.part_getD (by omega), Num.part_getD (by omega), ← hd, ← hr1, ← hr0] at h2
    have h3 : Num.gval (Num.part Z o (t + 2)) / Num.gval D < Num.B := Int.ediv_lt_of_lt_mul hDpos hlt
    unfold Num.B at h2 h3
    omega
  have HS := Lib.hid (And.intro hsl hsn)
  have HGE := Lib.hid hge
  clear hsl hsn hge
  have HL := Lib.hid hDl
  have H1 := Lib.hid hr1
  have H0 := Lib.hid hr0
  have HD := Lib.hid hd
  have HLT := Lib.hid hlt
  have HR := Lib.hid hr
  clear hDl hr1 hr0 hd hlt hr
  go_enter Tryz.func106, Tryz.ntmps106
  go_wp2_with fail
  go_quiet (fail)
  go_wp2_with fail
  have hlast : ∀ i, 0 ≤ Z.getD (o + i) 0 ∧ Z.getD (o + i) 0 < Num.B := fun i => hn.getD (o + i)
  refine (addTimes_any (-g) _ b o (t + 2) cap ob oy capy (t + 1) Z D HL.out (HR.out.drewN _) (hy.drewN _) hne (by omega) (by omega) hZ (fun i _ => hlast i) (by have := hlast (t + 2 - 1); unfold Num.B at this; omega) hD.1 (by omega) (by omega)).mono ?_
  rintro e W1 ⟨rfl, ws, hfil, hrow1, hg1⟩
  have hinv : RedInv (Num.part Z o (t + 2)) D t g ws := ⟨by rw [hfil.len, HS.out.1], fun i hi => hfil.norm i hi, by rw [hfil.eq, Int.neg_mul]; omega, HGE.out, hgb.2⟩
  have hg2 : w.grownBy W1 (some b) := grown_trans (grown_drewN (grown_refl w _) _) hg1
  have HI := Lib.hid hinv
  have HR1 := Lib.hid hrow1
  have HG1 := Lib.hid hg2
  clear hinv hrow1 hg2 hg1 hfil hlast hg hq0
  go_wp2_with fail
  go_loopw [6] (fun gv wr => ∃ (g : Int) (ws : List Int), gv = .int .i64 g ∧ 0 ≤ g ∧ RedInv (Num.part Z o (t + 2)) D t g ws ∧ Row wr b (put Z o ws) ∧ w.grownBy wr (some b)) (fun gv _ => (intOf gv).toNat)
  case atStart => exact ⟨g, ws, rfl, hgb.1, HI.out, HR1.out, HG1.out⟩
  case round =>
    clear HI HR1 HG1 hgb HGE
    obtain ⟨g, ws, rfl, hg0, hinv, hrow, hgr⟩ := hrel
    have hg9 := hinv.le
    obtain ⟨x, hx⟩ : ∃ x, x = ws.getD (t + 1) 0 := ⟨_, rfl⟩
    have hpl : (put Z o ws).length = Z.length := Num.put_length (by rw [hinv.len]; omega)
    have hc : wr.cell? ⟨b, o + (t + 1), none⟩ = some (.int .i64 x) := by
      rw [hrow.cell (by omega), Num.put_getD_in (by omega) (by rw [hinv.len]; omega), hx]
    have hlb := hinv.last HS.out.2 HS.out.1 hD.1 HL.out hDpos
    rw [← hx] at hlb
    have hyr : Sl wr ob oy capy D := hy.grown hgr (by simp; exact hne)
    have HI := Lib.hid hinv
    have HRw := Lib.hid hrow
    have HG := Lib.hid hgr
    have HX := Lib.hid hx
    have HP := Lib.hid hpl
    clear hinv hrow hgr hx hpl
    by_cases hneg : x < 0
    · have hwsl := HI.out.len
      have hin : ∀ i, i + 1 < t + 2 → 0 ≤ (put Z o ws).getD (o + i) 0 ∧ (put Z o ws).getD (o + i) 0 < Num.B := fun i hi => by
        rw [Num.put_getD_in (by omega) (by omega)]; exact HI.out.init i (by omega)
      have hin2 : (put Z o ws).getD (o + (t + 2 - 1)) 0 = x := by
        rw [show t + 2 - 1 = t + 1 by omega, Num.put_getD_in (by omega) (by omega), HX.out]
      have HWL := Lib.hid hwsl
      have HIN := Lib.hid hin
      have HIN2 := Lib.hid hin2
      clear hwsl hin hin2
      go_wp2_with fail
      refine (addTimes_any 1 wr b o (t + 2) cap ob oy capy (t + 1) (put Z o ws) D HL.out HRw.out hyr hne (by omega) (by have := HP.out; omega) (by have := HP.out; omega) HIN.out (by rw [HIN2.out]; omega) hD.1 (by omega) (by omega)).mono ?_
      rintro e W2 ⟨rfl, vs, hfil, hrow2, hg2⟩
      rw [Num.part_put (by omega) HWL.out] at hfil
      rw [Num.put_put (by omega) (by rw [hfil.len])] at hrow2
      have hinv2 : RedInv (Num.part Z o (t + 2)) D t (g - 1) vs ∧ 0 < g := by
        rcases HI.out.again hDpos (by rw [← HX.out]; exact hneg) hfil with h | h
        · exact h
        · have := Num.gval_nonneg HS.out.2; omega
      have hg0' := hinv2.2
      have HI2 := Lib.hid hinv2.1
      have HR2 := Lib.hid hrow2
      have HG2 := Lib.hid (grown_trans HG.out hg2)
      clear hinv2 hrow2 hg2 hfil
      go_wp2_with fail
      go_roundw
      case rel => exact ⟨g - 1, vs, rfl, by omega, HI2.out, HR2.out, HG2.out⟩
      case measure => simp [intOf]; omega
    · have hdone := HI.out.done hD.1 HL.out hDpos (by rw [← HX.out]; exact hneg)
      have HDn := Lib.hid hdone
      clear hdone
      go_wp2_with fail
      go_ret
      exact ⟨g, ws, rfl, HRw.out, HI.out.len, HDn.out.1, HDn.out.2.2.2.2.symm, HDn.out.2.1, HDn.out.2.2.1, HDn.out.2.2.2.1, HG.out⟩

set_option maxRecDepth 100000 in
set_option maxHeartbeats 1000000 in
theorem shrink_any (d : Int) (w : World) (b o cap n : Nat) (xs zs : List Int) (hn : xs.length = n) (hx : Sl w b o cap xs) (cx : Num.Norm xs) (hd : 1 ≤ d ∧ d ≤ 1000000000) (hz : Num.Can zs) (hv : Num.gval xs = Num.gval zs * d) (hlim : n ≤ 1000000000000) :
    Calls Tryz.prog 107 #[.slice (some ⟨b, o, none⟩) n cap, .int .i64 d] w (NewRow w zs) := by
  have hmk := run_makeInts n (by omega)
  have HN := Lib.hid hn
  have HV := Lib.hid hv
  clear hn hv
  go_enter Tryz.func107, Tryz.ntmps107
  go_wp2_with fail
  go_loopw [6, 7] (fun rv iv wr => ∃ (k : Nat) (r : Int), k ≤ n ∧ iv = .int .i64 ((k : Int) - 1) ∧ rv = .int .i64 r ∧ 0 ≤ r ∧ r < d ∧ ∃ Q, Num.ShrInv xs d k Q r ∧ Row wr w.heap.size Q ∧ Below w.heap.size w wr) (fun _ iv _ => (intOf iv + 1).toNat)
  case atStart => exact ⟨n, 0, Nat.le_refl _, rfl, rfl, by omega, by omega, _, by have := Num.ShrInv.start xs (show 0 < d by omega); rw [HN.out] at this; exact this, Row.made w n, (Below.refl _ _).alloc (Nat.le_refl _) _⟩
  case round =>
    obtain ⟨k, r, hk, rfl, rfl, r0, r1, Q, hinv, hrow, hB⟩ := hrel
    have HI := Lib.hid hinv
    have HR := Lib.hid hrow
    have HB := Lib.hid hB
    have HQ := Lib.hid hinv.len
    clear hinv hrow hB
    by_cases h0 : k = 0
    · subst h0
      have hsl := HR.out.sl (cap := n) (by rw [HQ.out, HN.out]; omega) (by omega)
      have htr := HI.out.done (show 0 < d by omega) hz HV.out
      have hpre : zs <+: Q := by rw [← htr]; exact Num.trimmed_prefix Q
      have hres := HR.out.prefix hpre (cap := n) (by have := hpre.length_le; rw [HQ.out, HN.out] at this; exact this) (by omega)
      have HTR := Lib.hid htr
      have HRes := Lib.hid hres
      clear htr hpre hres
      go_wp2_with fail
      refine (trim_any wr _ 0 n n Q (by rw [HQ.out, HN.out]) hsl).mono ?_
      rintro e W3 ⟨rfl, rfl⟩
      go_wp2_with fail
      go_ret
      exact ⟨w.heap.size, n, by rw [← HTR.out]; rfl, HRes.out, Nat.le_refl _, HB.out⟩
    · obtain ⟨j, rfl⟩ : ∃ j, k = j + 1 := ⟨k - 1, by omega⟩
      rw [show ((j + 1 : Nat) : Int) - 1 = (j : Int) by omega]
      obtain ⟨x, hxx⟩ : ∃ x, x = xs.getD j 0 := ⟨_, rfl⟩
      have hc : wr.cell? ⟨b, o + j, none⟩ = some (.int .i64 x) := by rw [hxx]; exact (hx.below HB.out hx.lt).cell j (by have := HN.out; omega)
      have hxb := cx.getD j
      rw [← hxx] at hxb
      unfold Num.B at hxb
      have hn0 : 0 ≤ r * 1000000000 + x ∧ r * 1000000000 + x < 1000000000 * d := by omega
      have hq : (r * 1000000000 + x) / d < 1000000000 ∧ 0 ≤ (r * 1000000000 + x) / d := ⟨Int.ediv_lt_of_lt_mul (by omega) hn0.2, Int.ediv_nonneg hn0.1 (by omega)⟩
      have hrm : 0 ≤ (r * 1000000000 + x) % d ∧ (r * 1000000000 + x) % d < d := ⟨Int.emod_nonneg _ (by omega), Int.emod_lt_of_pos _ (by omega)⟩
      have hf : wr.frozen? ⟨w.heap.size, j, none⟩ = false := HR.out.frozen j
      obtain ⟨v0, hv0⟩ : ∃ v0, wr.cell? ⟨w.heap.size, j, none⟩ = some (.int .i64 v0) := ⟨_, HR.out.cell (by rw [HQ.out, HN.out]; omega)⟩
      have HX := Lib.hid hxx
      clear hxx
      have hst := HI.out.step (by have := HN.out; omega) cx (show 0 < d by omega) HX.out (n := r * 1000000000 + x) rfl
      have H := Lib.hid hst
      clear hst
      go_wp2_with fail
      go_roundw
      case rel => exact ⟨j, _, by omega, rfl, rfl, hrm.1, hrm.2, _, H.out, HR.out.set _ _, HB.out.setCell (p := ⟨w.heap.size, j, none⟩) (Nat.le_refl _) _⟩
      case measure => simp [intOf]
end Go.Proofs.YtldohkfomdcpoaaGreatDoor
