/- The reference implementation of layer 1: the sum of two numbers: the walk. -/
import Derived.Test.YtahnkmkmoalbhaaGreatDoorZAA
import Derived.Test.YtahnkmkmoalbhaaGreatDoorZAC
import Derived.Test.YtahnkmkmoalbhaaGreatDoorZAD
import Derived.Deep.Cut
import Derived.Deep.RegionHeld3
import Derived.Laws.AppendOwnNone
import Derived.Laws.EntriesVeiled
import Derived.Laws.StructEq
import Derived.Lib.Bytealg
import Derived.Lib.CutLaws
import Derived.Lib.Strings
import Derived.Lib.TrimByte
namespace Go.Proofs.YtahnkmkmoalbhaaGreatDoor
open Go.RowKit

/-- the result of a function that makes a number: a struct with this value -/
def NewNum (w : World) (z : Int) (e : Ending) (w' : World) : Prop :=
  ∃ ng xa cap zs, e = .returned (.agg #[.bool ng, .slice xa (List.length zs) cap]) ∧ Num.Can zs ∧ sg ng (Num.gval zs) = z ∧ Rd w' xa cap zs ∧ zs.length ≤ 400 ∧ Below w.heap.size w w' ∧ ∀ b o, xa = some ⟨b, o, none⟩ → w.heap.size ≤ b

theorem sum_length {xs ys zs : List Int} (cz : Num.Can zs) (cx : Num.Norm xs) (cy : Num.Norm ys) (h : Num.gval zs = Num.gval xs + Num.gval ys) {k : Nat} (hk : xs.length ≤ k) (hk2 : ys.length ≤ k) : zs.length ≤ k + 1 := by
  by_cases h0 : zs = []
  · rw [h0]; simp
  · have h1 := Num.gval_ge cz h0
    have h2 := Num.gval_lt cx
    have h3 := Num.gval_lt cy
    have h4 := Num.Bpow_mono hk
    have h5 := Num.Bpow_mono hk2
    by_cases hl : zs.length ≤ k + 1
    · exact hl
    · have h6 := Num.Bpow_mono (show k + 1 ≤ zs.length - 1 by omega)
      rw [Int.pow_succ] at h6
      have h7 := Num.Bpow_pos k
      unfold Num.B at *
      omega
theorem diff_length {xs zs : List Int} (cz : Num.Can zs) (cx : Num.Norm xs) (h : Num.gval zs ≤ Num.gval xs) : zs.length ≤ xs.length := by
  by_cases h0 : zs = []
  · rw [h0]; simp
  · have h1 := Num.gval_ge cz h0
    have h2 := Num.gval_lt cx
    by_cases hl : zs.length ≤ xs.length
    · exact hl
    · have h6 := Num.Bpow_mono (show xs.length ≤ zs.length - 1 by omega)
      omega

/-- the three structs of a sum -/
structure Three (W : World) (B : Nat) (na nb : Bool) (u v : Value) : Prop where
  a : NumAt W B na u
  b : NumAt W (B + 1) nb v
  r : NumAt W (B + 2) false (.slice none 0 0)
theorem Three.below {W W' : World} {B : Nat} {na nb : Bool} {u v : Value} (h : Three W B na nb u v) (hb : Below W.heap.size W W') : Three W' B na nb u v :=
  ⟨h.a.below hb h.a.lt, h.b.below hb h.b.lt, h.r.below hb h.r.lt⟩
theorem Three.drewN {W : World} {B : Nat} {na nb : Bool} {u v : Value} (h : Three W B na nb u v) (q : Nat) : Three (W.drewN q) B na nb u v := ⟨h.a, h.b, h.r⟩
theorem NumAt.made (w : World) (ng : Bool) (v : Value) : NumAt (w.alloc (.cells #[.bool ng, v] 138)) w.heap.size ng v := heap_alloc_new w _
theorem Three.made (w : World) (na nb : Bool) (u v : Value) : Three (((w.alloc (.cells #[.bool na, u] 138)).alloc (.cells #[.bool nb, v] 138)).alloc (.cells #[.bool false, .slice none 0 0] 138)) w.heap.size na nb u v := by
  have h1 := NumAt.made w na u
  have h2 := NumAt.made (w.alloc (.cells #[.bool na, u] 138)) nb v
  have h3 := NumAt.made ((w.alloc (.cells #[.bool na, u] 138)).alloc (.cells #[.bool nb, v] 138)) false (.slice none 0 0)
  refine ⟨(h1.alloc _).alloc _, ?_, ?_⟩
  · have := h2.alloc (.cells #[.bool false, .slice none 0 0] 138)
    simpa using this
  · simpa using h3

/-- the sum's struct is written -/
theorem Three.done {w W : World} {na nb ng : Bool} {u v : Value} {xa : Option Addr} {cap : Nat} {zs : List Int} {z : Int} (h : Three W w.heap.size na nb u v) (hB : Below w.heap.size w W) (hz : Num.Can zs) (hv : sg ng (Num.gval zs) = z) (hl : zs.length ≤ 400) (hfr : ∀ b o, xa = some ⟨b, o, none⟩ → w.heap.size ≤ b)
    (hrd : Rd ((W.setCell ⟨w.heap.size + 2, 0, none⟩ (.bool ng)).setCell ⟨w.heap.size + 2, 1, none⟩ (.slice xa zs.length cap)) xa cap zs) :
    NumAt ((W.setCell ⟨w.heap.size + 2, 0, none⟩ (.bool ng)).setCell ⟨w.heap.size + 2, 1, none⟩ (.slice xa zs.length cap)) (w.heap.size + 2) ng (.slice xa zs.length cap) ∧
    NewNum w z (.returned (.agg #[.bool ng, .slice xa zs.length cap])) ((W.setCell ⟨w.heap.size + 2, 0, none⟩ (.bool ng)).setCell ⟨w.heap.size + 2, 1, none⟩ (.slice xa zs.length cap)) :=
  ⟨(h.r.set0 ng).set _, ng, xa, cap, zs, rfl, hz, hv, hrd, hl, (hB.setCell (p := ⟨w.heap.size + 2, 0, none⟩) (by simp) _).setCell (p := ⟨w.heap.size + 2, 1, none⟩) (by simp) _, hfr⟩

set_option maxRecDepth 100000 in
set_option maxHeartbeats 4000000 in
theorem rAdd_same (na : Bool) (w : World) (xa ya : Option Addr) (cap capy n m : Nat) (xs ys : List Int) (hn : xs.length = n) (hm : ys.length = m) (hx : Rd w xa cap xs) (hy : Rd w ya capy ys) (cx : Num.Can xs) (cy : Num.Can ys) (hlim : n ≤ 300 ∧ m ≤ 300) :
    Calls Tryz.prog 116 #[.agg #[.bool na, .slice xa n cap], .agg #[.bool na, .slice ya m capy]] w (NewNum w (sg na (Num.gval xs) + sg na (Num.gval ys))) := by
  have g0 := Num.gval_nonneg cx.1
  have g1 := Num.gval_nonneg cy.1
  obtain ⟨zs, hzs⟩ : ∃ zs, zs = Num.groups (Num.gval xs + Num.gval ys) := ⟨_, rfl⟩
  have hzc : Num.Can zs := by rw [hzs]; exact Num.Can.groups _
  have hzg : Num.gval zs = Num.gval xs + Num.gval ys := by rw [hzs, Num.gval_groups (by omega)]
  have hzl : zs.length ≤ 400 := by have := sum_length hzc cx.1 cy.1 hzg (k := 300) (by omega) (by omega); omega
  have hv : sg na (Num.gval zs) = sg na (Num.gval xs) + sg na (Num.gval ys) := by rw [hzg]; cases na <;> simp [sg]; omega
  obtain ⟨W0, hW0⟩ : ∃ W0, W0 = ((w.alloc (.cells #[.bool na, .slice xa n cap] 138)).alloc (.cells #[.bool na, .slice ya m capy] 138)).alloc (.cells #[.bool false, .slice none 0 0] 138) := ⟨_, rfl⟩
  have hB0 : Below w.heap.size w W0 := by rw [hW0]; exact (((Below.refl _ _).alloc (Nat.le_refl _) _).alloc (by simp) _).alloc (by simp; omega) _
  have h3 : Three W0 w.heap.size na na (.slice xa n cap) (.slice ya m capy) := by rw [hW0]; exact Three.made _ _ _ _ _
  have HRX := Lib.hid (fun q => (hx.below hB0).drewN q)
  have HRY := Lib.hid (fun q => (hy.below hB0).drewN q)
  have HT := Lib.hid h3
  have HB0 := Lib.hid hB0
  have HN := Lib.hid hn
  have HM := Lib.hid hm
  have HZG := Lib.hid hzg
  have HZL := Lib.hid hzl
  have HV := Lib.hid hv
  clear hn hm hzs hzg hzl hv hx hy h3 hB0
  have hbb : (na == na) = true := by simp
  go_enter Tryz.func116, Tryz.ntmps116
  go_wp2_with fail
  rw [← hW0]
  clear hW0
  obtain ⟨a0, a1, _, _⟩ := HT.out.a.cells
  obtain ⟨b0, b1, _, _⟩ := HT.out.b.cells
  have hne1 : w.heap.size + 1 + 1 ≠ w.heap.size := by omega
  have hne2 : w.heap.size ≠ w.heap.size + 1 + 1 := by omega
  go_region_held3 (fun w' => w'.cell? ⟨w.heap.size, 0, none⟩ = some (.bool na) ∧ w'.cell? ⟨w.heap.size, 1, none⟩ = some (.slice xa n cap) ∧ w'.cell? ⟨w.heap.size + 1, 0, none⟩ = some (.bool na) ∧ w'.cell? ⟨w.heap.size + 1, 1, none⟩ = some (.slice ya m capy))
    (go_keep)
    (first | (go_at_call 146; refine (rPlus_any _ xa ya cap capy n m xs ys HN.out HM.out (HRX.out _) (HRY.out _) cx cy (by omega) zs hzc HZG.out).mono ?_; rintro e W3 ⟨va, vc, rfl, hrd, hB3, hfr, _⟩; have HT3 := Lib.hid ((HT.out.drewN _).below hB3); obtain ⟨k0, k1, _, _⟩ := HT3.out.a.cells; obtain ⟨l0, l1, _, _⟩ := HT3.out.b.cells; obtain ⟨r0, r1, f0, f1⟩ := HT3.out.r.cells; have HB3 := Lib.hid ((below_drewN HB0.out _).trans (hB3.mono HB0.out.size)); have HD := Lib.hid (HT3.out.done HB3.out hzc HV.out HZL.out (fun b o e => Nat.le_trans HB0.out.size (hfr b o e)) ((hrd.setOther (a := ⟨w.heap.size + 2, 0, none⟩) (fun b o e => by have := hfr b o e; have := HT.out.r.lt; exact Nat.ne_of_gt (Nat.lt_of_lt_of_le HT.out.r.lt (hfr b o e))) (.bool na)).setOther (a := ⟨w.heap.size + 2, 1, none⟩) (fun b o e => Nat.ne_of_gt (Nat.lt_of_lt_of_le HT.out.r.lt (hfr b o e))) (.slice va zs.length vc))); clear hB3 hrd hfr))
  go_wp2_with fail
  obtain ⟨k0, k1, _, _⟩ := HD.out.1.cells
  exact bodyPost_ret (v := .agg #[.bool na, .slice va zs.length vc]) (by simp [results, Tryz.results116, go_sem, k0, k1]) rfl HD.out.2

set_option maxRecDepth 100000 in
set_option maxHeartbeats 4000000 in
theorem rAdd_ge (na nb : Bool) (w : World) (xa ya : Option Addr) (cap capy n m : Nat) (xs ys : List Int) (hn : xs.length = n) (hm : ys.length = m) (hx : Rd w xa cap xs) (hy : Rd w ya capy ys) (cx : Num.Can xs) (cy : Num.Can ys) (hlim : n ≤ 300 ∧ m ≤ 300) (hne : na ≠ nb) (hlt : ¬ Num.gval xs < Num.gval ys) :
    Calls Tryz.prog 116 #[.agg #[.bool na, .slice xa n cap], .agg #[.bool nb, .slice ya m capy]] w (NewNum w (sg na (Num.gval xs) + sg nb (Num.gval ys))) := by
  have g0 := Num.gval_nonneg cx.1
  have g1 := Num.gval_nonneg cy.1
  obtain ⟨zs, hzs⟩ : ∃ zs, zs = Num.groups (Num.gval xs - Num.gval ys) := ⟨_, rfl⟩
  have hzc : Num.Can zs := by rw [hzs]; exact Num.Can.groups _
  have hzg : Num.gval zs = Num.gval xs - Num.gval ys := by rw [hzs, Num.gval_groups (by omega)]
  have hzl : zs.length ≤ 400 := by have := diff_length hzc cx.1 (by omega); omega
  have hv : sg na (Num.gval zs) = sg na (Num.gval xs) + sg nb (Num.gval ys) := by rw [hzg]; cases na <;> cases nb <;> simp [sg] at hne ⊢ <;> omega
  obtain ⟨W0, hW0⟩ : ∃ W0, W0 = ((w.alloc (.cells #[.bool na, .slice xa n cap] 138)).alloc (.cells #[.bool nb, .slice ya m capy] 138)).alloc (.cells #[.bool false, .slice none 0 0] 138) := ⟨_, rfl⟩
  have hB0 : Below w.heap.size w W0 := by rw [hW0]; exact (((Below.refl _ _).alloc (Nat.le_refl _) _).alloc (by simp) _).alloc (by simp; omega) _
  have h3 : Three W0 w.heap.size na nb (.slice xa n cap) (.slice ya m capy) := by rw [hW0]; exact Three.made _ _ _ _ _
  have HRX := Lib.hid (fun q => (hx.below hB0).drewN q)
  have HRY := Lib.hid (fun q => (hy.below hB0).drewN q)
  have HT := Lib.hid h3
  have HB0 := Lib.hid hB0
  have HN := Lib.hid hn
  have HM := Lib.hid hm
  have HZG := Lib.hid hzg
  have HZL := Lib.hid hzl
  have HV := Lib.hid hv
  clear hn hm hzs hzg hzl hv hx hy h3 hB0
  have hbb : (na == nb) = false := by simpa using hne
  clear hne
  go_enter Tryz.func116, Tryz.ntmps116
  go_wp2_with fail
  rw [← hW0]
  clear hW0
  obtain ⟨a0, a1, _, _⟩ := HT.out.a.cells
  obtain ⟨b0, b1, _, _⟩ := HT.out.b.cells
  obtain ⟨c, hc⟩ : ∃ c, c = cmp3 (Num.gval xs) (Num.gval ys) := ⟨_, rfl⟩
  have hcc : ¬ c < 0 := by rw [hc]; unfold cmp3; rw [if_neg (by omega)]; split <;> omega
  have HC := Lib.hid hc
  clear hc
  refine (rOrder_any W0 xa ya cap capy n m xs ys HN.out HM.out (HRX.out 0) (HRY.out 0) cx cy).mono ?_
  rintro e _ ⟨rfl, k, rfl⟩
  rw [← HC.out]
  go_wp2_with fail
  have hne1 : w.heap.size + 1 + 1 ≠ w.heap.size := by omega
  have hne2 : w.heap.size ≠ w.heap.size + 1 + 1 := by omega
  go_region_held3 (fun w' => w'.cell? ⟨w.heap.size, 0, none⟩ = some (.bool na) ∧ w'.cell? ⟨w.heap.size, 1, none⟩ = some (.slice xa n cap) ∧ w'.cell? ⟨w.heap.size + 1, 0, none⟩ = some (.bool nb) ∧ w'.cell? ⟨w.heap.size + 1, 1, none⟩ = some (.slice ya m capy))
    (go_keep)
    (first | (go_at_call 148; refine (rMinus_any _ xa ya cap capy n m xs ys HN.out HM.out (HRX.out _) (HRY.out _) cx cy (by omega) zs hzc HZG.out).mono ?_; rintro e W3 ⟨va, vc, rfl, hrd, hB3, hfr, _⟩; have HT3 := Lib.hid ((HT.out.drewN _).below hB3); obtain ⟨k0, k1, _, _⟩ := HT3.out.a.cells; obtain ⟨l0, l1, _, _⟩ := HT3.out.b.cells; obtain ⟨r0, r1, f0, f1⟩ := HT3.out.r.cells; have HB3 := Lib.hid ((below_drewN HB0.out _).trans (hB3.mono HB0.out.size)); have HD := Lib.hid (HT3.out.done HB3.out hzc HV.out HZL.out (fun b o e => Nat.le_trans HB0.out.size (hfr b o e)) ((hrd.setOther (a := ⟨w.heap.size + 2, 0, none⟩) (fun b o e => by have := hfr b o e; have := HT.out.r.lt; exact Nat.ne_of_gt (Nat.lt_of_lt_of_le HT.out.r.lt (hfr b o e))) (.bool na)).setOther (a := ⟨w.heap.size + 2, 1, none⟩) (fun b o e => Nat.ne_of_gt (Nat.lt_of_lt_of_le HT.out.r.lt (hfr b o e))) (.slice va zs.length vc))); clear hB3 hrd hfr))
  go_wp2_with fail
  obtain ⟨k0, k1, _, _⟩ := HD.out.1.cells
  exact bodyPost_ret (v := .agg #[.bool na, .slice va zs.length vc]) (by simp [results, Tryz.results116, go_sem, k0, k1]) rfl HD.out.2

set_option maxRecDepth 100000 in
set_option maxHeartbeats 4000000 in
theorem rAdd_lt (na nb : Bool) (w : World) (xa ya : Option Addr) (cap capy n m : Nat) (xs ys : List Int) (hn : xs.length = n) (hm : ys.length = m) (hx : Rd w xa cap xs) (hy : Rd w ya capy ys) (cx : Num.Can xs) (cy : Num.Can ys) (hlim : n ≤ 300 ∧ m ≤ 300) (hne : na ≠ nb) (hlt : Num.gval xs < Num.gval ys) :
    Calls Tryz.prog 116 #[.agg #[.bool na, .slice xa n cap], .agg #[.bool nb, .slice ya m capy]] w (NewNum w (sg na (Num.gval xs) + sg nb (Num.gval ys))) := by
  have g0 := Num.gval_nonneg cx.1
  have g1 := Num.gval_nonneg cy.1
  obtain ⟨zs, hzs⟩ : ∃ zs, zs = Num.groups (Num.gval ys - Num.gval xs) := ⟨_, rfl⟩
  have hzc : Num.Can zs := by rw [hzs]; exact Num.Can.groups _
  have hzg : Num.gval zs = Num.gval ys - Num.gval xs := by rw [hzs, Num.gval_groups (by omega)]
  have hzl : zs.length ≤ 400 := by have := diff_length hzc cy.1 (by omega); omega
  have hv : sg nb (Num.gval zs) = sg na (Num.gval xs) + sg nb (Num.gval ys) := by rw [hzg]; cases na <;> cases nb <;> simp [sg] at hne ⊢ <;> omega
  obtain ⟨W0, hW0⟩ : ∃ W0, W0 = ((w.alloc (.cells #[.bool na, .slice xa n cap] 138)).alloc (.cells #[.bool nb, .slice ya m capy] 138)).alloc (.cells #[.bool false, .slice none 0 0] 138) := ⟨_, rfl⟩
  have hB0 : Below w.heap.size w W0 := by rw [hW0]; exact (((Below.refl _ _).alloc (Nat.le_refl _) _).alloc (by simp) _).alloc (by simp; omega) _
  have h3 : Three W0 w.heap.size na nb (.slice xa n cap) (.slice ya m capy) := by rw [hW0]; exact Three.made _ _ _ _ _
  have HRX := Lib.hid (fun q => (hx.below hB0).drewN q)
  have HRY := Lib.hid (fun q => (hy.below hB0).drewN q)
  have HT := Lib.hid h3
  have HB0 := Lib.hid hB0
  have HN := Lib.hid hn
  have HM := Lib.hid hm
  have HZG := Lib.hid hzg
  have HZL := Lib.hid hzl
  have HV := Lib.hid hv
  clear hn hm hzs hzg hzl hv hx hy h3 hB0
  have hbb : (na == nb) = false := by simpa using hne
  clear hne
  go_enter Tryz.func116, Tryz.ntmps116
  go_wp2_with fail
  rw [← hW0]
  clear hW0
  obtain ⟨a0, a1, _, _⟩ := HT.out.a.cells
  obtain ⟨b0, b1, _, _⟩ := HT.out.b.cells
  obtain ⟨c, hc⟩ : ∃ c, c = cmp3 (Num.gval xs) (Num.gval ys) := ⟨_, rfl⟩
  have hcc : c < 0 := by rw [hc]; unfold cmp3; rw [if_pos hlt]; decide
  have HC := Lib.hid hc
  clear hc
  refine (rOrder_any W0 xa ya cap capy n m xs ys HN.out HM.out (HRX.out 0) (HRY.out 0) cx cy).mono ?_
  rintro e _ ⟨rfl, k, rfl⟩
  rw [← HC.out]
  go_wp2_with fail
  have hne1 : w.heap.size + 1 + 1 ≠ w.heap.size := by omega
  have hne2 : w.heap.size ≠ w.heap.size + 1 + 1 := by omega
  go_region_held3 (fun w' => w'.cell? ⟨w.heap.size, 0, none⟩ = some (.bool na) ∧ w'.cell? ⟨w.heap.size, 1, none⟩ = some (.slice xa n cap) ∧ w'.cell? ⟨w.heap.size + 1, 0, none⟩ = some (.bool nb) ∧ w'.cell? ⟨w.heap.size + 1, 1, none⟩ = some (.slice ya m capy))
    (go_keep)
    (first | (go_at_call 148; refine (rMinus_any _ ya xa capy cap m n ys xs HM.out HN.out (HRY.out _) (HRX.out _) cy cx (by omega) zs hzc HZG.out).mono ?_; rintro e W3 ⟨va, vc, rfl, hrd, hB3, hfr, _⟩; have HT3 := Lib.hid ((HT.out.drewN _).below hB3); obtain ⟨k0, k1, _, _⟩ := HT3.out.a.cells; obtain ⟨l0, l1, _, _⟩ := HT3.out.b.cells; obtain ⟨r0, r1, f0, f1⟩ := HT3.out.r.cells; have HB3 := Lib.hid ((below_drewN HB0.out _).trans (hB3.mono HB0.out.size)); have HD := Lib.hid (HT3.out.done HB3.out hzc HV.out HZL.out (fun b o e => Nat.le_trans HB0.out.size (hfr b o e)) ((hrd.setOther (a := ⟨w.heap.size + 2, 0, none⟩) (fun b o e => by have := hfr b o e; have := HT.out.r.lt; exact Nat.ne_of_gt (Nat.lt_of_lt_of_le HT.out.r.lt (hfr b o e))) (.bool nb)).setOther (a := ⟨w.heap.size + 2, 1, none⟩) (fun b o e => Nat.ne_of_gt (Nat.lt_of_lt_of_le HT.out.r.lt (hfr b o e))) (.slice va zs.length vc))); clear hB3 hrd hfr))
  go_wp2_with fail
  obtain ⟨k0, k1, _, _⟩ := HD.out.1.cells
  exact bodyPost_ret (v := .agg #[.bool nb, .slice va zs.length vc]) (by simp [results, Tryz.results116, go_sem, k0, k1]) rfl HD.out.2

/-- the sum of two numbers -/
theorem rAdd_num (na nb : Bool) (w : World) (xa ya : Option Addr) (cap capy n m : Nat) (xs ys : List Int) (hn : xs.length = n) (hm : ys.length = m) (hx : Rd w xa cap xs) (hy : Rd w ya capy ys) (cx : Num.Can xs) (cy : Num.Can ys) (hlim : n ≤ 300 ∧ m ≤ 300) :
    Calls Tryz.prog 116 #[.agg #[.bool na, .slice xa n cap], .agg #[.bool nb, .slice ya m capy]] w (NewNum w (sg na (Num.gval xs) + sg nb (Num.gval ys))) := by
  by_cases h : na = nb
  · subst h
    exact rAdd_same na w xa ya cap capy n m xs ys hn hm hx hy cx cy hlim
  · by_cases hlt : Num.gval xs < Num.gval ys
    · exact rAdd_lt na nb w xa ya cap capy n m xs ys hn hm hx hy cx cy hlim h hlt
    · exact rAdd_ge na nb w xa ya cap capy n m xs ys hn hm hx hy cx cy hlim h hlt

end Go.Proofs.YtahnkmkmoalbhaaGreatDoor

/- The reference implementation of layer 1: long division by guessing: plain mathematics, and appending to a new row. -/
namespace Go.Proofs.YtahnkmkmoalbhaaGreatDoor
open Go.RowKit

/-- the places of the quotient from z on are done, and R is what is left of what was brought down -/
structure QInv (xs ys : List Int) (n z : Nat) (Q : List Int) (R : Int) : Prop where
  qlen : Q.length = n
  qnorm : Num.Norm Q
  r0 : 0 ≤ R
  r1 : R < Num.gval ys
  eq : Num.gval (xs.drop z) = Num.gval (Q.drop z) * Num.gval ys + R

theorem QInv.start {xs ys : List Int} {n : Nat} (hn : xs.length = n) (hy : 0 < Num.gval ys) : QInv xs ys n n (List.replicate n 0) 0 :=
  ⟨by simp, Num.Norm.zeros _, by omega, hy, by rw [List.drop_of_length_le (by omega), List.drop_of_length_le (by simp)]; simp [Num.gval]⟩

/-- the group is between lo and hi -/
structure SInv (Y R : Int) (lo hi : Int) : Prop where
  lo0 : 0 ≤ lo
  le : lo ≤ hi
  hi1 : hi ≤ 999999999
  low : lo * Y ≤ R
  high : R < (hi + 1) * Y
theorem SInv.start {Y R : Int} (h0 : 0 ≤ R) (h : R < 1000000000 * Y) : SInv Y R 0 999999999 := ⟨by omega, by omega, by omega, by omega, by omega⟩
theorem SInv.up {Y R lo hi mid : Int} (h : SInv Y R lo hi) (h1 : lo < mid) (h2 : mid ≤ hi) (hm : Y * mid ≤ R) : SInv Y R mid hi := ⟨by have := h.lo0; omega, h2, h.hi1, by rw [Int.mul_comm]; exact hm, h.high⟩
theorem SInv.down {Y R lo hi mid : Int} (h : SInv Y R lo hi) (h1 : lo < mid) (h2 : mid ≤ hi) (hm : ¬ Y * mid ≤ R) : SInv Y R lo (mid - 1) := ⟨h.lo0, by omega, by have := h.hi1; omega, h.low, by rw [Int.sub_add_cancel, Int.mul_comm]; omega⟩

theorem Own.one (w : World) (x : Int) : Own (w.alloc (.cells #[.int .i64 x] 3)) w.heap.size (.slice (some ⟨w.heap.size, 0, none⟩) 1 1) [x] :=
  ⟨rfl, .inr ⟨w.heap.size, 1, #[.int .i64 x], rfl, Nat.le_refl _, heap_alloc_new w _, Nat.le_refl _, by unfold maxLen; omega, rfl, rfl⟩⟩

end Go.Proofs.YtahnkmkmoalbhaaGreatDoor

/- The reference implementation of layer 1: Add, Sub: walks. -/
namespace Go.Proofs.YtahnkmkmoalbhaaGreatDoor
open Go.RowKit

theorem short_val {a : ByteArray} {m : Int} (h : shortV a = .tuple #[.int .i64 m, .bool true]) : m = vS a ∧ -100000000000000000 < m ∧ m < 100000000000000000 := by
  unfold shortV at h
  by_cases h17 : (Num.sdig a.data.toList).length ≤ 17
  · rw [if_pos h17] at h
    injection h with h
    have h2 : vS a = m := by
      have := congrArg (fun x : Array Value => x[0]?) h
      simp at this; exact this
    have h1 := Num.num_lt _ (Num.Plain.sdig a.data.toList).1
    have h3 := Nat.pow_le_pow_right (show 1 ≤ 10 by decide) h17
    have h4 : (vS a).natAbs = Num.mag a.data.toList := Num.natAbs_val _
    unfold Num.mag at h4
    omega
  · rw [if_neg h17] at h
    injection h with h
    have := congrArg (fun x : Array Value => x[1]?) h
    simp at this

set_option maxRecDepth 100000 in
set_option maxHeartbeats 4000000 in
theorem rAdd_long (a b : ByteArray) (w : World) (ha : a.size ≤ 1000) (hb : b.size ≤ 1000) (m p : Int) (is q : Bool) (hsa : shortV a = .tuple #[.int .i64 m, .bool is]) (hsb : shortV b = .tuple #[.int .i64 p, .bool q])
    (hway : is = false ∨ (is = true ∧ q = false)) :
    Calls Tryz.prog 82 #[.string a, .string b] w (StrPost w (vS a + vS b)) := by
  have HSA := Lib.hid hsa
  have HSB := Lib.hid hsb
  have hla := gS_length2 a ha
  have hlb := gS_length2 b hb
  have hva := vS_sg a
  have hvb := vS_sg b
  obtain ⟨na, hna⟩ : ∃ na, na = Num.sneg a.data.toList := ⟨_, rfl⟩
  obtain ⟨nb, hnb⟩ : ∃ nb, nb = Num.sneg b.data.toList := ⟨_, rfl⟩
  rw [← hna] at hva
  rw [← hnb] at hvb
  have HV := Lib.hid (show sg na (Num.gval (gS a)) + sg nb (Num.gval (gS b)) = vS a + vS b by rw [hva, hvb])
  have HNA := Lib.hid hna
  have HNB := Lib.hid hnb
  clear hsa hsb hva hvb hna hnb
  rcases hway with rfl | ⟨rfl, rfl⟩
  all_goals
    go_enter Tryz.func82, Tryz.ntmps82
    go_wp2_with fail
    refine (short_any a w (by omega)).mono ?_
    rintro e _ ⟨rfl, rfl⟩
    rw [HSA.out]
    go_wp2_with fail
    refine (short_any b w (by omega)).mono ?_
    rintro e _ ⟨rfl, rfl⟩
    rw [HSB.out]
    go_wp2_with fail
    refine (rRead_any a w ha).mono ?_
    rintro e w1 ⟨xa, cx, rfl, hrx, hB1⟩
    rw [← HNA.out]
    go_wp2_with fail
    refine (rRead_any b w1 hb).mono ?_
    rintro e w2 ⟨ya, cy, rfl, hry, hB2⟩
    rw [← HNB.out]
    have hrx2 := hrx.below hB2
    have hB : Below w.heap.size w w2 := hB1.trans (hB2.mono hB1.size)
    clear hB1 hB2 hrx
    go_wp2_with fail
    refine (rAdd_num na nb w2 xa ya cx cy _ _ (gS a) (gS b) rfl rfl hrx2 hry (gS_can a) (gS_can b) (by omega)).mono ?_
    rintro e w3 ⟨ng, va, vc, zs, rfl, hzc, hzv, hrd, hzl, hB3, _⟩
    have HZV := Lib.hid hzv
    have hB' := hB.trans (hB3.mono hB.size)
    clear hzv hrx2 hry
    go_wp2_with fail
    refine (rWrite_any ng w3 va vc _ zs rfl hrd hzc.1 (by omega)).mono ?_
    rintro e w4 ⟨rfl, hB4⟩
    go_wp2_with fail
    go_ret
    exact ⟨by rw [HZV.out, HV.out]; rfl, hB'.trans (hB4.mono hB'.size)⟩

set_option maxRecDepth 100000 in
set_option maxHeartbeats 4000000 in
theorem rAdd_short (a b : ByteArray) (w : World) (ha : a.size ≤ 1000) (hb : b.size ≤ 1000) (m p : Int) (hsa : shortV a = .tuple #[.int .i64 m, .bool true]) (hsb : shortV b = .tuple #[.int .i64 p, .bool true])
    (m0 : -100000000000000000 < m) (m1 : m < 100000000000000000) (p0 : -100000000000000000 < p) (p1 : p < 100000000000000000) :
    Calls Tryz.prog 82 #[.string a, .string b] w fun e w' => e = .returned (.string (cS (m + p))) ∧ w = w' := by
  have HSA := Lib.hid hsa
  have HSB := Lib.hid hsb
  clear hsa hsb
  go_enter Tryz.func82, Tryz.ntmps82
  go_wp2_with fail
  refine (short_any a w (by omega)).mono ?_
  rintro e _ ⟨rfl, rfl⟩
  rw [HSA.out]
  go_wp2_with fail
  refine (short_any b w (by omega)).mono ?_
  rintro e _ ⟨rfl, rfl⟩
  rw [HSB.out]
  go_wp2_with fail
  refine (rOf_any (m + p) w (by omega) (by omega)).mono ?_
  rintro e _ ⟨rfl, rfl⟩
  go_wp2_with fail
  go_ret
  exact ⟨rfl, rfl⟩

theorem rAdd_any (a b : ByteArray) (w : World) (ha : a.size ≤ 1000) (hb : b.size ≤ 1000) :
    Calls Tryz.prog 82 #[.string a, .string b] w (StrPost w (vS a + vS b)) := by
  rcases shortV_ways a with hsa | hsa
  · rcases shortV_ways b with hsb | hsb
    · obtain ⟨_, h1, h2⟩ := short_val hsa
      obtain ⟨_, h3, h4⟩ := short_val hsb
      exact (rAdd_short a b w ha hb _ _ hsa hsb h1 h2 h3 h4).mono fun e w' hh => ⟨hh.1, hh.2 ▸ Below.refl _ _⟩
    · exact rAdd_long a b w ha hb _ _ _ _ hsa hsb (.inr ⟨rfl, rfl⟩)
  · rcases shortV_ways b with hsb | hsb
    · exact rAdd_long a b w ha hb _ _ _ _ hsa hsb (.inl rfl)
    · exact rAdd_long a b w ha hb _ _ _ _ hsa hsb (.inl rfl)

end Go.Proofs.YtahnkmkmoalbhaaGreatDoor

/- The plain mathematics of fractions: lowest terms. It imports nothing of the program. -/
namespace Go.Proofs.YtahnkmkmoalbhaaGreatDoor.Fra

/-- numerator and denominator in lowest terms, for a positive denominator -/
def red (n d : Int) : Int × Int := (n / (Int.gcd n d : Int), d / (Int.gcd n d : Int))

theorem gcd_pos {n d : Int} (h : 0 < d) : (0 : Int) < (Int.gcd n d : Int) := by
  have : Int.gcd n d ≠ 0 := by
    intro e
    rw [Int.gcd_eq_zero_iff] at e
    omega
  omega
theorem red_left {n d : Int} : n = (red n d).1 * (Int.gcd n d : Int) := (Int.ediv_mul_cancel (Int.gcd_dvd_left _ _)).symm
theorem red_right {n d : Int} : d = (red n d).2 * (Int.gcd n d : Int) := (Int.ediv_mul_cancel (Int.gcd_dvd_right _ _)).symm
theorem red_pos {n d : Int} (h : 0 < d) : 0 < (red n d).2 := by
  have h1 := red_right (n := n) (d := d)
  have h2 := gcd_pos (n := n) h
  by_cases h3 : 0 < (red n d).2
  · exact h3
  · exfalso
    have := Int.mul_nonpos_of_nonpos_of_nonneg (show (red n d).2 ≤ 0 by omega) (show 0 ≤ (Int.gcd n d : Int) by omega)
    omega
theorem red_coprime {n d : Int} (h : 0 < d) : Int.gcd (red n d).1 (red n d).2 = 1 := by
  have h2 := gcd_pos (n := n) h
  have h3 : Int.gcd n d = Int.gcd (red n d).1 (red n d).2 * Int.gcd n d := by
    conv => lhs; rw [red_left (n := n) (d := d)]
    conv => lhs; arg 2; rw [red_right (n := n) (d := d)]
    rw [Int.gcd_mul_right]; simp
  have h4 : 0 < Int.gcd n d := by omega
  exact Nat.eq_of_mul_eq_mul_right h4 (by omega)
theorem red_cross {n d : Int} : (red n d).1 * d = n * (red n d).2 := by
  have h1 := red_left (n := n) (d := d)
  have h2 := red_right (n := n) (d := d)
  generalize (red n d).1 = p at *
  generalize (red n d).2 = q at *
  generalize (Int.gcd n d : Int) = g at *
  subst h1
  subst h2
  rw [Int.mul_comm q g, ← Int.mul_assoc]

theorem red_lowest {p q : Int} (h : Int.gcd p q = 1) : red p q = (p, q) := by
  unfold red; rw [h]; simp
end Go.Proofs.YtahnkmkmoalbhaaGreatDoor.Fra

/- The plain mathematics of fractions: the four operations on pairs, their laws. It imports nothing of the program. -/
namespace Go.Proofs.YtahnkmkmoalbhaaGreatDoor.Fra

def addP (x y : Int × Int) : Int × Int := red (x.1 * y.2 + y.1 * x.2) (x.2 * y.2)
def mulP (x y : Int × Int) : Int × Int := red (x.1 * y.1) (x.2 * y.2)
def negP (x : Int × Int) : Int × Int := red (-x.1) x.2
def low (x : Int × Int) : Int × Int := red x.1 x.2
theorem low_cross (x : Int × Int) : (low x).1 * x.2 = x.1 * (low x).2 := red_cross
/-- pairs with one value -/
def Same (x y : Int × Int) : Prop := x.1 * y.2 = y.1 * x.2
theorem Same.low {x : Int × Int} : Same (low x) x := by unfold Same; rw [low_cross]
end Go.Proofs.YtahnkmkmoalbhaaGreatDoor.Fra

/- The value of a fraction's two strings, and the strings of a value: plain mathematics. -/
namespace Go.Proofs.YtahnkmkmoalbhaaGreatDoor
open Go.RowKit Fra

/-- numerator and denominator as they are, with a positive denominator -/
def rawP (n d : Int) : Int × Int := if d = 0 then (n, 1) else if d < 0 then (-n, -d) else (n, d)
def raw (n d : ByteArray) : Int × Int := rawP (vS n) (vS d)
theorem rawP_pos (n d : Int) : 0 < (rawP n d).2 := by
  unfold rawP
  split
  · exact Int.one_pos
  · split
    · show 0 < -d; omega
    · show 0 < d; omega
theorem raw_pos (n d : ByteArray) : 0 < (raw n d).2 := rawP_pos _ _
theorem rawP_zero (n : Int) : rawP n 0 = (n, 1) := rfl
theorem rawP_of_pos {n d : Int} (h : 0 < d) : rawP n d = (n, d) := by unfold rawP; rw [if_neg (by omega), if_neg (by omega)]
/-- in lowest terms, with a positive denominator -/
def Low (p : Int × Int) : Prop := 0 < p.2 ∧ Int.gcd p.1 p.2 = 1
theorem Low.of_red {n d : Int} (h : 0 < d) : Low (red n d) := ⟨red_pos h, red_coprime h⟩
theorem Low.eq {p : Int × Int} (h : Low p) : low p = p := red_lowest h.2

/-- the canonical denominator -/
def cD (d : Int) : ByteArray := if d = 1 then ⟨#[]⟩ else cS d
theorem raw_can {p : Int × Int} (h : 0 < p.2) : raw (cS p.1) (cD p.2) = p := by
  unfold raw cD
  by_cases h1 : p.2 = 1
  · rw [if_pos h1, vS_cS, vS_nil, rawP_zero]; exact Prod.ext rfl h1.symm
  · rw [if_neg h1, vS_cS, vS_cS, rawP_of_pos h]
/-! ### Digits -/
theorem Cap.one {k : Nat} (h : 1 ≤ k) : Cap k 1 := by
  unfold Cap
  have := Nat.pow_le_pow_right (show 0 < 10 by decide) h
  show 1 < 10 ^ k
  omega
def CapP (k : Nat) (p : Int × Int) : Prop := Cap k p.1 ∧ Cap k p.2
theorem CapP.mono {k l : Nat} {p : Int × Int} (h : CapP k p) (hkl : k ≤ l) : CapP l p := ⟨h.1.mono hkl, h.2.mono hkl⟩
theorem Cap.factor {k : Nat} {n r g : Int} (h : Cap k n) (hr : n = r * g) (hg : 0 < g) : Cap k r := by
  unfold Cap at *
  have : n.natAbs = r.natAbs * g.natAbs := by rw [hr, Int.natAbs_mul]
  have h2 : r.natAbs * 1 ≤ r.natAbs * g.natAbs := Nat.mul_le_mul_left _ (by omega)
  omega
theorem CapP.of_red {k : Nat} {n d : Int} (hd : 0 < d) (h1 : Cap k n) (h2 : Cap k d) : CapP k (red n d) :=
  ⟨h1.factor red_left (gcd_pos hd), h2.factor red_right (gcd_pos hd)⟩
theorem CapP.of_raw {k : Nat} {n d : ByteArray} (hk : 1 ≤ k) (h1 : n.size ≤ k) (h2 : d.size ≤ k) : CapP k (raw n d) := by
  have c1 : Cap k (vS n) := Cap.of h1 rfl
  have c2 : Cap k (vS d) := Cap.of h2 rfl
  unfold raw rawP
  split
  · exact ⟨c1, Cap.one hk⟩
  · split
    · exact ⟨c1.neg, c2.neg⟩
    · exact ⟨c1, c2⟩
theorem CapP.low {k : Nat} {x : Int × Int} (h : CapP k x) (hx : 0 < x.2) : CapP k (low x) := CapP.of_red hx h.1 h.2
theorem CapP.add {k l : Nat} {x y : Int × Int} (h : CapP k x) (g : CapP l y) (hx : 0 < x.2) (hy : 0 < y.2) : CapP (k + l + 1) (addP x y) := by
  refine CapP.of_red (Int.mul_pos hx hy) (Cap.add (h.1.mul g.2) ?_) ((h.2.mul g.2).mono (by omega))
  have := g.1.mul h.2
  rwa [Nat.add_comm] at this
theorem CapP.mul {k l : Nat} {x y : Int × Int} (h : CapP k x) (g : CapP l y) (hx : 0 < x.2) (hy : 0 < y.2) : CapP (k + l) (mulP x y) :=
  CapP.of_red (Int.mul_pos hx hy) (h.1.mul g.1) (h.2.mul g.2)
theorem CapP.neg {k : Nat} {x : Int × Int} (h : CapP k x) (hx : 0 < x.2) : CapP k (negP x) := CapP.of_red hx h.1.neg h.2
/-- what a function is told of a fraction that it is handed -/
def Arg (n d : ByteArray) (x : Int × Int) : Prop := raw n d = x ∧ n.size ≤ 100000 ∧ d.size ≤ 100000
theorem Arg.pos {n d : ByteArray} {x : Int × Int} (h : Arg n d x) : 0 < x.2 := by rw [← h.1]; exact raw_pos _ _
theorem Arg.cap {n d : ByteArray} {x : Int × Int} (h : Arg n d x) : CapP 100000 x := by rw [← h.1]; exact CapP.of_raw (by decide) h.2.1 h.2.2
theorem cD_size {k : Nat} {z : Int} (h : Cap k z) : (cD z).size ≤ k + 1 := by
  unfold cD
  split
  · exact Nat.zero_le _
  · exact cS_size h
theorem Arg.of {k : Nat} {p : Int × Int} (h : CapP k p) (hp : 0 < p.2) (hk : k ≤ 99999) : Arg (cS p.1) (cD p.2) p :=
  ⟨raw_can hp, by have := cS_size h.1; omega, by have := cD_size h.2; omega⟩
theorem Arg.given {n d : ByteArray} {x : Int × Int} (h : raw n d = x) (h1 : n.size ≤ 60) (h2 : d.size ≤ 60) : Arg n d x := ⟨h, by omega, by omega⟩
theorem Arg.zero : Arg ⟨#[]⟩ ⟨#[]⟩ (0, 1) := ⟨by decide +kernel, by decide, by decide⟩

/-- the difference -/
def subP (x y : Int × Int) : Int × Int := red (x.1 * y.2 + -y.1 * x.2) (x.2 * y.2)
end Go.Proofs.YtahnkmkmoalbhaaGreatDoor

/- The program's layer 2: isZero, whole, quotient, value, lowest, pack, canonical: the walks. -/
namespace Go.Proofs.YtahnkmkmoalbhaaGreatDoor
open Go.RowKit Fra

theorem eq_nil (z : Int) : (cS z).toList.isEmpty = decide (z = 0) := by
  have e : (cS z).toList.isEmpty = ((cS z).toList == (ByteArray.mk #[]).toList) := by
    rw [show (ByteArray.mk #[]).toList = [] by decide +kernel]
    cases (cS z).toList <;> rfl
  rw [e, beq_toList]
  by_cases h : z = 0
  · subst h; decide +kernel
  · rw [decide_eq_false h, decide_eq_false_iff_not]
    exact fun e => h (cS_inj (e.trans cS_zero.symm))
/-- two strings lie in block b -/
def PairAt (w : World) (b : Nat) (t : TypeId) (u v : ByteArray) : Prop := w.heap[b]? = some (.cells #[.string u, .string v] t (0, 0))
theorem PairAt.cells {w : World} {b : Nat} {t : TypeId} {u v : ByteArray} (h : PairAt w b t u v) : w.cell? ⟨b, 0, none⟩ = some (.string u) ∧ w.cell? ⟨b, 1, none⟩ = some (.string v) ∧ w.frozen? ⟨b, 0, none⟩ = false ∧ w.frozen? ⟨b, 1, none⟩ = false := by
  unfold PairAt at h
  exact ⟨by rw [cell_of_row w b 0 _ _ _ h]; rfl, by rw [cell_of_row w b 1 _ _ _ h]; rfl, frozen_of_row w b 0 _ _ h, frozen_of_row w b 1 _ _ h⟩
theorem PairAt.lt {w : World} {b : Nat} {t : TypeId} {u v : ByteArray} (h : PairAt w b t u v) : b < w.heap.size := by
  unfold PairAt at h
  rcases Nat.lt_or_ge b w.heap.size with h' | h'
  · exact h'
  · rw [Array.getElem?_eq_none h'] at h; simp at h
theorem PairAt.below {w w' : World} {b : Nat} {t : TypeId} {u v : ByteArray} (h : PairAt w b t u v) (hb : Below w.heap.size w w') : PairAt w' b t u v := by
  have hl := h.lt
  unfold PairAt at *; rw [hb.block b hl]; exact h
theorem PairAt.made (w : World) (t : TypeId) (u v : ByteArray) : PairAt (w.alloc (.cells #[.string u, .string v] t)) w.heap.size t u v := heap_alloc_new w _
theorem PairAt.alloc {w : World} {b : Nat} {t : TypeId} {u v : ByteArray} (h : PairAt w b t u v) (o : Obj) : PairAt (w.alloc o) b t u v := h.below ((Below.refl _ _).alloc (Nat.le_refl _) _)

theorem PairAt.put {W : World} {b : Nat} {t : TypeId} {x y : ByteArray} (h : PairAt W b t x y) (u v : ByteArray) : PairAt ((W.setCell ⟨b, 0, none⟩ (.string u)).setCell ⟨b, 1, none⟩ (.string v)) b t u v := by
  have h1 := heap_setCell_same W b 0 _ _ (.string u) h
  have h2 := heap_setCell_same (W.setCell ⟨b, 0, none⟩ (.string u)) b 1 _ _ (.string v) h1
  unfold PairAt; rw [h2]; rfl
/-- a box, and the variable of a result -/
structure Box1 (W : World) (B : Nat) (s t : TypeId) (a b : ByteArray) : Prop where
  x : PairAt W B s a b
  r : PairAt W (B + 1) t ⟨#[]⟩ ⟨#[]⟩
theorem Box1.below {W W' : World} {B : Nat} {s t : TypeId} {a b : ByteArray} (h : Box1 W B s t a b) (hb : Below W.heap.size W W') : Box1 W' B s t a b := ⟨h.x.below hb, h.r.below hb⟩
theorem Box1.made (w : World) (s t : TypeId) (a b : ByteArray) : Box1 ((w.alloc (.cells #[.string a, .string b] s)).alloc (.cells #[.string ⟨#[]⟩, .string ⟨#[]⟩] t)) w.heap.size s t a b := by
  refine ⟨(PairAt.made w s a b).alloc _, ?_⟩
  have := PairAt.made (w.alloc (.cells #[.string a, .string b] s)) t ⟨#[]⟩ ⟨#[]⟩
  simpa using this
theorem below_two (w : World) (o p : Obj) : Below w.heap.size w ((w.alloc o).alloc p) := ((Below.refl _ _).alloc (Nat.le_refl _) _).alloc (by simp) _
end Go.Proofs.YtahnkmkmoalbhaaGreatDoor

/- The program's layer 2: add, subtract, multiply, divide: the walks. -/
namespace Go.Proofs.YtahnkmkmoalbhaaGreatDoor
open Go.RowKit Fra

/-- two boxes, and the variable of a result, behind some calls -/
structure St2 (w W : World) (s t : TypeId) (a b c d : ByteArray) : Prop where
  g : Ground W
  x : PairAt W w.heap.size s a b
  y : PairAt W (w.heap.size + 1) s c d
  r : PairAt W (w.heap.size + 1 + 1) t ⟨#[]⟩ ⟨#[]⟩
  below : Below w.heap.size w W
theorem St2.next {w W W1 : World} {s t : TypeId} {a b c d : ByteArray} (h : St2 w W s t a b c d) (hb : Below W.heap.size W W1) : St2 w W1 s t a b c d :=
  ⟨h.g.below hb, h.x.below hb, h.y.below hb, h.r.below hb, h.below.trans (hb.mono h.below.size)⟩
theorem St2.drewN {w W : World} {s t : TypeId} {a b c d : ByteArray} (h : St2 w W s t a b c d) (q : Nat) : St2 w (W.drewN q) s t a b c d :=
  ⟨⟨h.g.tab, h.g.max⟩, h.x, h.y, h.r, below_drewN h.below q⟩
theorem St2.drew {w W : World} {s t : TypeId} {a b c d : ByteArray} (h : St2 w W s t a b c d) : St2 w W.drew s t a b c d := h.drewN 1
end Go.Proofs.YtahnkmkmoalbhaaGreatDoor

/- The program's layer 2: apply: the walks. -/
namespace Go.Proofs.YtahnkmkmoalbhaaGreatDoor
open Go.RowKit Fra

/-- the table of the operations lies in block b -/
def FunsAt (W : World) (b : Nat) (p q r s : Value) : Prop := W.heap[b]? = some (.cells #[p, q, r, s] 160 (0, 0))
theorem FunsAt.made (W : World) (p q r s : Value) : FunsAt (W.alloc (.cells #[p, q, r, s] 160)) W.heap.size p q r s := heap_alloc_new W _

/-- the boxes of apply and its table of operations, behind some calls -/
structure StA (w W : World) (N : Nat) (a b c d : ByteArray) : Prop where
  st : St2 w W 59 124 a b c d
  tab : FunsAt W N (.func (.func 138) #[] #[]) (.func (.func 139) #[] #[]) (.func (.func 140) #[] #[]) (.func (.func 141) #[] #[])
theorem FunsAt.below {W W' : World} {b : Nat} {p q r s : Value} (h : FunsAt W b p q r s) (hb : Below W.heap.size W W') : FunsAt W' b p q r s := by
  unfold FunsAt at *
  have hl : b < W.heap.size := by
    rcases Nat.lt_or_ge b W.heap.size with h' | h'
    · exact h'
    · rw [Array.getElem?_eq_none h'] at h; simp at h
  rw [hb.block b hl]; exact h
theorem StA.next {w W W1 : World} {N : Nat} {a b c d : ByteArray} (h : StA w W N a b c d) (hb : Below W.heap.size W W1) : StA w W1 N a b c d := ⟨h.st.next hb, h.tab.below hb⟩
theorem StA.drewN {w W : World} {N : Nat} {a b c d : ByteArray} (h : StA w W N a b c d) (q : Nat) : StA w (W.drewN q) N a b c d := ⟨h.st.drewN q, h.tab⟩
theorem StA.drew {w W : World} {N : Nat} {a b c d : ByteArray} (h : StA w W N a b c d) : StA w W.drew N a b c d := h.drewN 1
theorem StA.made {w W0 : World} {a b c d : ByteArray} (h : St2 w W0 59 124 a b c d) :
    StA w (W0.alloc (.cells #[.func (.func 138) #[] #[], .func (.func 139) #[] #[], .func (.func 140) #[] #[], .func (.func 141) #[] #[]] 160)) W0.heap.size a b c d :=
  ⟨h.next ((Below.refl _ _).alloc (Nat.le_refl _) _), FunsAt.made _ _ _ _ _⟩
end Go.Proofs.YtahnkmkmoalbhaaGreatDoor

/- The program's layer 2: apply at integers, Add, Sub, Mul, Neg, Of, New, Quo: the walks. -/
namespace Go.Proofs.YtahnkmkmoalbhaaGreatDoor
open Go.RowKit Fra

/-- the variable of a result and the table of operations, behind some calls -/
structure StI (w W : World) (N : Nat) : Prop where
  g : Ground W
  r : PairAt W w.heap.size 124 ⟨#[]⟩ ⟨#[]⟩
  tab : FunsAt W N (.func (.func 138) #[] #[]) (.func (.func 139) #[] #[]) (.func (.func 140) #[] #[]) (.func (.func 141) #[] #[])
  below : Below w.heap.size w W
theorem StI.next {w W W1 : World} {N : Nat} (h : StI w W N) (hb : Below W.heap.size W W1) : StI w W1 N := ⟨h.g.below hb, h.r.below hb, h.tab.below hb, h.below.trans (hb.mono h.below.size)⟩
theorem StI.drewN {w W : World} {N : Nat} (h : StI w W N) (q : Nat) : StI w (W.drewN q) N := ⟨⟨h.g.tab, h.g.max⟩, h.r, h.tab, below_drewN h.below q⟩
theorem StI.drew {w W : World} {N : Nat} (h : StI w W N) : StI w W.drew N := h.drewN 1
end Go.Proofs.YtahnkmkmoalbhaaGreatDoor

/- The program's layer 2: Neg, Of, New, Quo, Compare: the walks. -/
namespace Go.Proofs.YtahnkmkmoalbhaaGreatDoor
open Go.RowKit Fra

/-- a box, and the variable of a result, behind some calls -/
structure St1 (w W : World) (s t : TypeId) (a b : ByteArray) : Prop where
  g : Ground W
  x : PairAt W w.heap.size s a b
  r : PairAt W (w.heap.size + 1) t ⟨#[]⟩ ⟨#[]⟩
  below : Below w.heap.size w W
theorem St1.next {w W W1 : World} {s t : TypeId} {a b : ByteArray} (h : St1 w W s t a b) (hb : Below W.heap.size W W1) : St1 w W1 s t a b :=
  ⟨h.g.below hb, h.x.below hb, h.r.below hb, h.below.trans (hb.mono h.below.size)⟩
theorem St1.made {w : World} (hG : Ground w) (s t : TypeId) (a b : ByteArray) : St1 w ((w.alloc (.cells #[.string a, .string b] s)).alloc (.cells #[.string ⟨#[]⟩, .string ⟨#[]⟩] t)) s t a b :=
  ⟨hG.below (below_two _ _ _), (Box1.made w s t a b).x, (Box1.made w s t a b).r, below_two _ _ _⟩

theorem raw_nil : raw ⟨#[]⟩ ⟨#[]⟩ = (0, 1) := by decide +kernel
end Go.Proofs.YtahnkmkmoalbhaaGreatDoor

/- The program's layer 2: Quo, Compare, Floor, Parts, Check: the walks. -/
namespace Go.Proofs.YtahnkmkmoalbhaaGreatDoor
open Go.RowKit Fra

/-! ### Fractions compared with == -/
/-- a box behind some calls -/
structure StX (w W : World) (s : TypeId) (a b : ByteArray) : Prop where
  g : Ground W
  x : PairAt W w.heap.size s a b
  below : Below w.heap.size w W
theorem StX.next {w W W1 : World} {s : TypeId} {a b : ByteArray} (h : StX w W s a b) (hb : Below W.heap.size W W1) : StX w W1 s a b := ⟨h.g.below hb, h.x.below hb, h.below.trans (hb.mono h.below.size)⟩
theorem StX.drewN {w W : World} {s : TypeId} {a b : ByteArray} (h : StX w W s a b) (q : Nat) : StX w (W.drewN q) s a b := ⟨⟨h.g.tab, h.g.max⟩, h.x, below_drewN h.below q⟩
theorem StX.drew {w W : World} {s : TypeId} {a b : ByteArray} (h : StX w W s a b) : StX w W.drew s a b := h.drewN 1
theorem StX.made {w : World} (hG : Ground w) (s : TypeId) (a b : ByteArray) : StX w (w.alloc (.cells #[.string a, .string b] s)) s a b :=
  have hB : Below w.heap.size w (w.alloc (.cells #[.string a, .string b] s)) := (Below.refl _ _).alloc (Nat.le_refl _) _
  ⟨hG.below hB, PairAt.made w s a b, hB⟩

end Go.Proofs.YtahnkmkmoalbhaaGreatDoor

/- The program's layer 2: text, Print, Power: the walks. -/
namespace Go.Proofs.YtahnkmkmoalbhaaGreatDoor
open Go.RowKit Fra

/-! ### Powers -/
theorem PairAt.set0 {W : World} {b : Nat} {t : TypeId} {x y : ByteArray} (h : PairAt W b t x y) (u : ByteArray) : PairAt (W.setCell ⟨b, 0, none⟩ (.string u)) b t u y := by
  have h1 := heap_setCell_same W b 0 _ _ (.string u) h
  unfold PairAt; rw [h1]; rfl
theorem PairAt.set1 {W : World} {b : Nat} {t : TypeId} {x y : ByteArray} (h : PairAt W b t x y) (u : ByteArray) : PairAt (W.setCell ⟨b, 1, none⟩ (.string u)) b t x u := by
  have h1 := heap_setCell_same W b 1 _ _ (.string u) h
  unfold PairAt; rw [h1]; rfl
theorem PairAt.setOther {W : World} {b : Nat} {t : TypeId} {x y : ByteArray} (h : PairAt W b t x y) {a : Addr} (hne : b ≠ a.block) (u : Value) : PairAt (W.setCell a u) b t x y := by
  unfold PairAt at *; rw [Below.heap_setCell W a u b hne]; exact h

end Go.Proofs.YtahnkmkmoalbhaaGreatDoor

/- The program's layer 2: Power with a negative exponent: the walk. -/
namespace Go.Proofs.YtahnkmkmoalbhaaGreatDoor
open Go.RowKit Fra

theorem St1.drewN {w W : World} {s t : TypeId} {a b : ByteArray} (h : St1 w W s t a b) (q : Nat) : St1 w (W.drewN q) s t a b := ⟨⟨h.g.tab, h.g.max⟩, h.x, h.r, below_drewN h.below q⟩
theorem St1.drew {w W : World} {s t : TypeId} {a b : ByteArray} (h : St1 w W s t a b) : St1 w W.drew s t a b := h.drewN 1
theorem St1.alloc {w W : World} {s t : TypeId} {a b : ByteArray} (h : St1 w W s t a b) (o : Obj) : St1 w (W.alloc o) s t a b := h.next ((Below.refl _ _).alloc (Nat.le_refl _) _)
theorem St1.room {w W : World} {s t : TypeId} {a b : ByteArray} (h : St1 w W s t a b) : w.heap.size + 2 ≤ W.heap.size := by have := h.r.lt; omega
end Go.Proofs.YtahnkmkmoalbhaaGreatDoor

/- The program's layer 2: Parse: the walk, by the contract of strings.Cut. -/
namespace Go.Proofs.YtahnkmkmoalbhaaGreatDoor
open Go.RowKit Fra

/-! ### Where the first slash stands -/
def slash (l : List UInt8) : Nat := (l.takeWhile (· != 47)).length
end Go.Proofs.YtahnkmkmoalbhaaGreatDoor

/- The contracts of the program's functions of layer 2, by values; the laws' awake. -/
namespace Go.Proofs.YtahnkmkmoalbhaaGreatDoor
open Go.RowKit Fra

/-- two strings with a value, of a size that every function bears -/
def Val (n d : ByteArray) (x : Int × Int) : Prop := raw n d = x ∧ n.size ≤ 99998 ∧ d.size ≤ 99998
theorem Val.pos {n d : ByteArray} {x : Int × Int} (h : Val n d x) : 0 < x.2 := by rw [← h.1]; exact raw_pos _ _
theorem Val.of {k : Nat} {p : Int × Int} (h : CapP k p) (hp : 0 < p.2) (hk : k ≤ 99997) : Val (cS p.1) (cD p.2) p :=
  ⟨raw_can hp, by have := cS_size h.1; omega, by have := cD_size h.2; omega⟩
theorem Val.zero : Val ⟨#[]⟩ ⟨#[]⟩ (0, 1) := ⟨raw_nil, by decide, by decide⟩
theorem CapP.zero {k : Nat} (h : 1 ≤ k) : CapP k (0, 1) := ⟨by unfold Cap; have := Nat.pow_pos (n := k) (show 0 < 10 by decide); exact this, Cap.one h⟩
theorem CapP.sub {k l : Nat} {x y : Int × Int} (h : CapP k x) (g : CapP l y) (hx : 0 < x.2) (hy : 0 < y.2) : CapP (k + l + 1) (subP x y) := by
  refine CapP.of_red (Int.mul_pos hx hy) (Cap.add (h.1.mul g.2) ?_) ((h.2.mul g.2).mono (by omega))
  have := g.1.neg.mul h.2
  rwa [Nat.add_comm] at this
/-- a fraction that the law is given -/
structure Giv (k : Nat) (n d : ByteArray) (x : Int × Int) : Prop where
  eq : raw n d = x
  num : n.size ≤ k
  den : d.size ≤ k
theorem Giv.arg {k : Nat} {n d : ByteArray} {x : Int × Int} (h : Giv k n d x) (hk : k ≤ 99998) : Val n d x := ⟨h.eq, Nat.le_trans h.num hk, Nat.le_trans h.den hk⟩
theorem Giv.cap {k : Nat} {n d : ByteArray} {x : Int × Int} (h : Giv k n d x) (hk : 1 ≤ k) : CapP k x := by rw [← h.eq]; exact CapP.of_raw hk h.num h.den
theorem Giv.pos {k : Nat} {n d : ByteArray} {x : Int × Int} (h : Giv k n d x) : 0 < x.2 := by rw [← h.eq]; exact raw_pos _ _

section
variable {n d m e : ByteArray} {x y z : Int × Int} (w : World) (hG : Ground w)
include hG
/-! ### The chapter's examples -/
end

end Go.Proofs.YtahnkmkmoalbhaaGreatDoor

/- What the walks of the laws of layer 2 carry along: the boxes of fractions. -/
namespace Go.Proofs.YtahnkmkmoalbhaaGreatDoor
open Go.RowKit Fra

/-- fractions lie in these blocks -/
def Boxes (W : World) : List (Nat × ByteArray × ByteArray) → Prop
  | [] => True
  | x :: r => PairAt W x.1 59 x.2.1 x.2.2 ∧ Boxes W r
theorem Boxes.below {W W' : World} (hb : Below W.heap.size W W') : ∀ {L : List (Nat × ByteArray × ByteArray)}, Boxes W L → Boxes W' L
  | [], _ => trivial
  | _ :: _, h => ⟨h.1.below hb, Boxes.below hb h.2⟩
theorem Boxes.drewN {W : World} (q : Nat) : ∀ {L : List (Nat × ByteArray × ByteArray)}, Boxes W L → Boxes (W.drewN q) L
  | [], _ => trivial
  | _ :: _, h => ⟨h.1, Boxes.drewN q h.2⟩
structure StL (w W : World) (L : List (Nat × ByteArray × ByteArray)) : Prop where
  g : Ground W
  below : Below w.heap.size w W
  box : Boxes W L
  nd : L.Pairwise fun x y => x.1 ≠ y.1
  lo : ∀ x ∈ L, w.heap.size ≤ x.1
variable {w W W1 : World} {L : List (Nat × ByteArray × ByteArray)}
theorem Boxes.lt : ∀ {L : List (Nat × ByteArray × ByteArray)}, Boxes W L → ∀ x ∈ L, x.1 < W.heap.size
  | [], _, _, h => by simp at h
  | y :: r, hb, x, h => by
    rcases List.mem_cons.1 h with e | e
    · subst e; exact hb.1.lt
    · exact Boxes.lt hb.2 x e
theorem StL.next (h : StL w W L) (hb : Below W.heap.size W W1) : StL w W1 L := ⟨h.g.below hb, h.below.trans (hb.mono h.below.size), h.box.below hb, h.nd, h.lo⟩
theorem StL.drewN (h : StL w W L) (q : Nat) : StL w (W.drewN q) L := ⟨⟨h.g.tab, h.g.max⟩, below_drewN h.below q, h.box.drewN q, h.nd, h.lo⟩
theorem StL.drew (h : StL w W L) : StL w W.drew L := h.drewN 1
theorem StL.other (h : StL w W L) (o : Obj) : StL w (W.alloc o) L := h.next ((Below.refl _ _).alloc (Nat.le_refl _) _)
theorem StL.alloc (h : StL w W L) (u v : ByteArray) : StL w (W.alloc (.cells #[.string u, .string v] 59)) ((W.heap.size, u, v) :: L) :=
  ⟨(h.other _).g, (h.other _).below, ⟨PairAt.made W _ u v, (h.other _).box⟩, List.pairwise_cons.2 ⟨fun x hx => by have := h.box.lt x hx; show W.heap.size ≠ x.1; omega, h.nd⟩, fun x hx => by
    rcases List.mem_cons.1 hx with e | e
    · subst e; exact h.below.size
    · exact h.lo x e⟩
theorem Boxes.setOther {a : Addr} {u : Value} : ∀ {L : List (Nat × ByteArray × ByteArray)}, (∀ x ∈ L, x.1 ≠ a.block) → Boxes W L → Boxes (W.setCell a u) L
  | [], _, _ => trivial
  | x :: r, hn, h => ⟨h.1.setOther (hn x (by simp)) u, Boxes.setOther (fun y hy => hn y (by simp [hy])) h.2⟩
theorem StL.zero (hG : Ground w) : StL w w [] := ⟨hG, Below.refl _ _, trivial, .nil, fun _ h => by simp at h⟩
theorem StL.one (hG : Ground w) (a b : ByteArray) : StL w (w.alloc (.cells #[.string a, .string b] 59)) [(w.heap.size, a, b)] := (StL.zero hG).alloc a b
theorem StL.two (hG : Ground w) (a b c d : ByteArray) : StL w ((w.alloc (.cells #[.string a, .string b] 59)).alloc (.cells #[.string c, .string d] 59)) [(w.heap.size + 1, c, d), (w.heap.size, a, b)] := by
  have := (StL.one hG a b).alloc c d
  simpa using this
theorem StL.three (hG : Ground w) (a b c d e f : ByteArray) : StL w (((w.alloc (.cells #[.string a, .string b] 59)).alloc (.cells #[.string c, .string d] 59)).alloc (.cells #[.string e, .string f] 59)) [(w.heap.size + 1 + 1, e, f), (w.heap.size + 1, c, d), (w.heap.size, a, b)] := by
  have := (StL.two hG a b c d).alloc e f
  simpa using this
end Go.Proofs.YtahnkmkmoalbhaaGreatDoor

/- The plain mathematics of rounding: by the number rounded down, and what is left over. -/
namespace Go.Proofs.YtahnkmkmoalbhaaGreatDoor.Fra

def rest (x : Int × Int) : Int := x.1 - Int.fdiv x.1 x.2 * x.2
end Go.Proofs.YtahnkmkmoalbhaaGreatDoor.Fra

/- The plain mathematics of decimal texts: their parts, their digits, the text of units with places. -/
namespace Go.Proofs.YtahnkmkmoalbhaaGreatDoor.Num
open Lib (decDigits)

/-- exactly k digits of a number -/
def fixd : Nat → Nat → Bs
  | 0, _ => []
  | k + 1, m => fixd k (m / 10) ++ [UInt8.ofNat (48 + m % 10)]

theorem fixd_length : ∀ (k m : Nat), (fixd k m).length = k
  | 0, _ => rfl
  | k + 1, m => by rw [fixd, List.length_append, fixd_length k]; rfl
theorem fixd_all : ∀ (k m : Nat), (fixd k m).all isDig = true
  | 0, _ => rfl
  | k + 1, m => by rw [fixd, List.all_append, fixd_all k, List.all_cons, isDig_ofNat _ (Nat.mod_lt m (by decide : 0 < 10))]; rfl
theorem num_fixd : ∀ (k m : Nat), num (fixd k m) = m % 10 ^ k
  | 0, m => by rw [fixd, Nat.pow_zero, Nat.mod_one]; rfl
  | k + 1, m => by
    rw [fixd, num_snoc, num_fixd k, dv_ofNat _ (Nat.mod_lt m (by decide : 0 < 10)), Nat.pow_succ, Nat.mul_comm (10 ^ k) 10, Nat.mod_mul]
    omega
theorem ofNat_dv {c : UInt8} (h : isDig c = true) : UInt8.ofNat (48 + dv c) = c := by
  have h1 := (isDig_iff c).mp h
  unfold dv
  rw [show 48 + (c.toNat - 48) = c.toNat by omega]
  simp
theorem fixd_num (r : Bs) : r.reverse.all isDig = true → fixd r.length (num r.reverse) = r.reverse := by
  induction r with
  | nil => intro _; rfl
  | cons c r ih =>
    intro h
    rw [List.reverse_cons, List.all_append] at h
    simp only [Bool.and_eq_true] at h
    have hc : isDig c = true := by simpa using h.2
    have hd : dv c < 10 := by have := (isDig_iff c).mp hc; unfold dv; omega
    rw [List.reverse_cons, List.length_cons, fixd, num_snoc, show (10 * num r.reverse + dv c) / 10 = num r.reverse by omega, show (10 * num r.reverse + dv c) % 10 = dv c by omega, ih h.1, ofNat_dv hc]
theorem fixd_of_num {l : Bs} (h : l.all isDig = true) : fixd l.length (num l) = l := by
  have := fixd_num l.reverse
  rw [List.reverse_reverse, List.length_reverse] at this
  exact this h
theorem fixd_zero : ∀ k : Nat, fixd k 0 = List.replicate k 48
  | 0 => rfl
  | k + 1 => by rw [fixd, Nat.zero_div, fixd_zero k, List.replicate_succ']; rfl
theorem fixd_mod {k m : Nat} : fixd k (m % 10 ^ k) = fixd k m := by
  have h := fixd_of_num (fixd_all k m)
  rwa [fixd_length, num_fixd] at h
/-- a whole part -/
def goodW (l : Bs) : Bool := !l.isEmpty && l.all isDig && (decide (l.length = 1) || decide (l.head? ≠ some 48))
theorem decDigits_zero : decDigits 0 = [48] := by decide +kernel
theorem goodW_digits (n : Nat) : goodW (decDigits n) = true := by
  unfold goodW
  rw [all_decDigits]
  have h1 := decDigits_ne n
  by_cases h : n = 0
  · subst h; rw [decDigits_zero]; rfl
  · have h2 := head_decDigits n h
    simp [h1, h2]
theorem digits_goodW {l : Bs} (h : goodW l = true) : decDigits (num l) = l := by
  unfold goodW at h
  simp only [Bool.and_eq_true, Bool.or_eq_true, decide_eq_true_eq, Bool.not_eq_true', List.isEmpty_eq_false_iff] at h
  obtain ⟨⟨h1, h2⟩, h3⟩ := h
  by_cases hd : l.head? = some 48
  · have hl := h3.resolve_right (fun k => k hd)
    match l, hl, hd with
    | [c], _, hd =>
      have : c = 48 := by simpa using hd
      subst this
      exact decDigits_zero
  · have hp : Plain l := ⟨h2, hd⟩
    have h4 := digs_num hp
    unfold digs at h4
    rwa [if_neg (by have := num_pos hp h1; omega)] at h4

/-- a text by its parts -/
def mk (ng : Bool) (W F : Bs) : Bs := (if ng then [45] else []) ++ (W ++ if F = [] then [] else 46 :: F)

/-- the text of z units with p places -/
def decT (z : Int) (p : Nat) : Bs := mk (decide (z < 0)) (decDigits (z.natAbs / 10 ^ p)) (fixd p z.natAbs)

/-- the parts of a text -/
def dotW (l : Bs) : Bs := (cut l).2.takeWhile (· != 46)
def dotT (l : Bs) : Bs := (cut l).2.dropWhile (· != 46)
def dotF (l : Bs) : Bs := (dotT l).tail
def decM (l : Bs) : Nat := num (dotW l ++ dotF l)
def isDec (l : Bs) : Bool := goodW (dotW l) && ((dotT l).isEmpty || (!(dotF l).isEmpty && (dotF l).all isDig)) && (!(cut l).1 || decide (decM l ≠ 0))
/-- the units of a text, with as many places as it has -/
def decU (l : Bs) : Int := if (cut l).1 then -(decM l : Int) else decM l
def decP (l : Bs) : Nat := (dotF l).length

theorem dig_ne_dot {c : UInt8} (h : isDig c = true) : (c != 46) = true := by
  have h1 := (isDig_iff c).mp h
  have : c ≠ 46 := by intro h2; subst h2; exact absurd h1.1 (by decide)
  simp [this]
theorem take_dot : ∀ {W t : Bs}, W.all isDig = true → (t = [] ∨ t.head? = some 46) → (W ++ t).takeWhile (· != 46) = W ∧ (W ++ t).dropWhile (· != 46) = t
  | [], t, _, h => by
    match t, h with
    | [], _ => exact ⟨rfl, rfl⟩
    | c :: t, h =>
      have : c = 46 := by simpa using h
      subst this
      exact ⟨by simp, by simp⟩
  | c :: W, t, hW, h => by
    rw [List.all_cons, Bool.and_eq_true] at hW
    obtain ⟨h1, h2⟩ := take_dot hW.2 h
    have hc := dig_ne_dot hW.1
    simp only [List.cons_append, List.takeWhile_cons, List.dropWhile_cons, hc, if_true, h1, h2, and_self]

theorem cut_eq (l : Bs) : l = (if (cut l).1 then [45] else []) ++ (cut l).2 := by
  unfold cut
  split
  · next h =>
    match l, h with
    | c :: l, h =>
      have : c = 45 := by simpa using h
      subst this
      rfl
  · rfl

theorem goodW_all {W : Bs} (h : goodW W = true) : W.all isDig = true ∧ W ≠ [] := by
  unfold goodW at h
  simp only [Bool.and_eq_true, Bool.not_eq_true', List.isEmpty_eq_false_iff] at h
  exact ⟨h.1.2, h.1.1⟩

/-- a decimal text is the text of its units with its places -/
theorem isDec_text {l : Bs} (h : isDec l = true) : l = decT (decU l) (decP l) := by
  unfold isDec at h
  simp only [Bool.and_eq_true, Bool.or_eq_true, Bool.not_eq_true', List.isEmpty_iff, List.isEmpty_eq_false_iff, decide_eq_true_eq] at h
  obtain ⟨⟨h1, h2⟩, h3⟩ := h
  have hF : (dotF l).all isDig = true := by
    rcases h2 with h2 | h2
    · unfold dotF; rw [h2]; rfl
    · exact h2.2
  have hlt := num_lt _ hF
  have hM : decM l = num (dotW l) * 10 ^ decP l + num (dotF l) := by unfold decM decP; rw [num_append]
  have hpos : 0 < 10 ^ decP l := Nat.pow_pos (by decide)
  have ha : (decU l).natAbs = decM l := by unfold decU; split <;> omega
  have hs : decide (decU l < 0) = (cut l).1 := by
    unfold decU
    cases hc : (cut l).1
    · simp
    · rw [hc] at h3
      have : decM l ≠ 0 := by simpa using h3
      simp only [if_true]
      rw [decide_eq_true_eq]
      omega
  have hq : decM l / 10 ^ decP l = num (dotW l) := by
    rw [hM, Nat.mul_comm, Nat.mul_add_div hpos, Nat.div_eq_of_lt (by exact hlt), Nat.add_zero]
  have hf : fixd (decP l) (decM l) = dotF l := by
    rw [← fixd_mod, hM, Nat.mul_comm, Nat.mul_add_mod, Nat.mod_eq_of_lt (by exact hlt)]
    exact fixd_of_num hF
  unfold decT mk
  rw [ha, hs, hq, hf, digits_goodW h1]
  have ht : dotT l = if dotF l = [] then [] else 46 :: dotF l := by
    rcases h2 with h2 | h2
    · rw [h2, if_pos (by unfold dotF; rw [h2]; rfl)]
    · rw [if_neg h2.1]
      have hne : dotT l ≠ [] := by intro k; apply h2.1; unfold dotF; rw [k]; rfl
      unfold dotF
      match e : dotT l, hne with
      | c :: t, _ =>
        have := List.head?_dropWhile_not (p := (· != 46)) (l := (cut l).2)
        unfold dotT at e
        rw [e] at this
        have hc : c = 46 := by simpa using this
        rw [hc]; rfl
  rw [← ht]
  unfold dotW dotT
  rw [List.takeWhile_append_dropWhile]
  exact cut_eq l

theorem cut_text (z : Int) (p : Nat) : cut (decT z p) = (decide (z < 0), decDigits (z.natAbs / 10 ^ p) ++ if fixd p z.natAbs = [] then [] else 46 :: fixd p z.natAbs) := by
  unfold decT mk
  cases decide (z < 0)
  · have h1 := goodW_all (goodW_digits (z.natAbs / 10 ^ p))
    match e : decDigits (z.natAbs / 10 ^ p), h1.2 with
    | c :: W, _ =>
      rw [e, List.all_cons, Bool.and_eq_true] at h1
      have := dig_ne_minus h1.1.1
      simp [cut, this]
  · rfl
theorem parts_text (z : Int) (p : Nat) : dotW (decT z p) = decDigits (z.natAbs / 10 ^ p) ∧ dotT (decT z p) = (if p = 0 then [] else 46 :: fixd p z.natAbs) := by
  unfold dotW dotT
  rw [cut_text]
  have h1 := take_dot (W := decDigits (z.natAbs / 10 ^ p)) (t := if fixd p z.natAbs = [] then [] else 46 :: fixd p z.natAbs) (all_decDigits _) (by split <;> simp)
  refine ⟨h1.1, h1.2.trans ?_⟩
  have : fixd p z.natAbs = [] ↔ p = 0 := by rw [← List.length_eq_zero_iff, fixd_length]
  simp only [this]
theorem dotF_text (z : Int) (p : Nat) : dotF (decT z p) = fixd p z.natAbs := by
  unfold dotF
  rw [(parts_text z p).2]
  split
  · next h => subst h; rfl
  · rfl
theorem decM_text (z : Int) (p : Nat) : decM (decT z p) = z.natAbs := by
  unfold decM
  rw [dotF_text, (parts_text z p).1, num_append, num_decDigits, num_fixd, fixd_length, Nat.mul_comm]
  exact Nat.div_add_mod _ _
theorem isDec_of_text (z : Int) (p : Nat) : isDec (decT z p) = true := by
  unfold isDec
  rw [decM_text, dotF_text, (parts_text z p).1, (parts_text z p).2, cut_text, goodW_digits, fixd_all]
  simp only [Bool.true_and, Bool.and_true, Bool.and_eq_true, Bool.or_eq_true, Bool.not_eq_true', decide_eq_true_eq, decide_eq_false_iff_not, List.isEmpty_iff, List.isEmpty_eq_false_iff]
  refine ⟨?_, by omega⟩
  by_cases h : p = 0
  · left; rw [if_pos h]
  · right
    intro k
    have := fixd_length p z.natAbs
    rw [k] at this
    exact h this.symm

end Go.Proofs.YtahnkmkmoalbhaaGreatDoor.Num

/- The plain mathematics of decimal texts, further: zeros behind, padding, powers of 10, texts with one value. -/
namespace Go.Proofs.YtahnkmkmoalbhaaGreatDoor.Num
open Go.Lib (decDigits)

theorem pow10 (k : Nat) : (0 : Int) < 10 ^ k := Int.pow_pos (by decide)

/-- digits, padded, are a whole part and the digits behind the point -/
theorem pad_split (m n : Nat) : List.replicate (n + 1 - (digs m).length) 48 ++ digs m = decDigits (m / 10 ^ n) ++ fixd n m := by
  have hp := Plain.digs m
  have hn := num_digs m
  have zn : ∀ k : Nat, num (List.replicate k 48) = 0 := fun k => by rw [← fixd_zero, num_fixd, Nat.zero_mod]
  by_cases hl : (digs m).length ≤ n
  · have hlt := num_lt _ hp.1
    rw [hn] at hlt
    have h1 : m < 10 ^ n := Nat.lt_of_lt_of_le hlt (Nat.pow_le_pow_right (by decide) hl)
    have hall : (List.replicate (n - (digs m).length) 48 ++ digs m).all isDig = true := by
      rw [List.all_append, hp.1, Bool.and_true, ← fixd_zero]
      exact fixd_all _ _
    have h2 := fixd_of_num hall
    rw [List.length_append, List.length_replicate, num_append, zn, hn, show n - (digs m).length + (digs m).length = n by omega] at h2
    rw [Nat.zero_mul, Nat.zero_add] at h2
    rw [h2, Nat.div_eq_of_lt h1, decDigits_zero, show n + 1 - (digs m).length = (n - (digs m).length) + 1 by omega, List.replicate_succ]
    rfl
  · rw [show n + 1 - (digs m).length = 0 by omega]
    rw [show List.replicate 0 (48 : UInt8) = [] from rfl, List.nil_append]
    have e := List.take_append_drop ((digs m).length - n) (digs m)
    have hF : ((digs m).drop ((digs m).length - n)).all isDig = true := by
      rw [List.all_eq_true]
      intro c hc
      exact List.all_eq_true.mp hp.1 c (List.mem_of_mem_drop hc)
    have hFl : ((digs m).drop ((digs m).length - n)).length = n := by rw [List.length_drop]; omega
    have hWg : goodW ((digs m).take ((digs m).length - n)) = true := by
      have hW : ((digs m).take ((digs m).length - n)).all isDig = true := by
        rw [List.all_eq_true]
        intro c hc
        exact List.all_eq_true.mp hp.1 c (List.mem_of_mem_take hc)
      have hh : ((digs m).take ((digs m).length - n)).head? = (digs m).head? := by
        rw [List.head?_take, if_neg (by omega)]
      have hne : (digs m).take ((digs m).length - n) ≠ [] := by
        intro k
        have := congrArg List.length k
        rw [List.length_take] at this
        simp only [List.length_nil] at this
        omega
      unfold goodW
      rw [hW, hh]
      simp [hne, hp.2]
    have hnum : num ((digs m).take ((digs m).length - n)) * 10 ^ n + num ((digs m).drop ((digs m).length - n)) = m := by
      have := num_append ((digs m).take ((digs m).length - n)) ((digs m).drop ((digs m).length - n))
      rw [e, hn, hFl] at this
      exact this.symm
    have hlt := num_lt _ hF
    rw [hFl] at hlt
    have hq : m / 10 ^ n = num ((digs m).take ((digs m).length - n)) := by
      conv => lhs; rw [← hnum]
      rw [Nat.mul_comm, Nat.mul_add_div (Nat.pow_pos (by decide)), Nat.div_eq_of_lt hlt, Nat.add_zero]
    have hr : fixd n m = (digs m).drop ((digs m).length - n) := by
      have h3 := fixd_of_num hF
      rw [hFl] at h3
      have h4 : m % 10 ^ n = num ((digs m).drop ((digs m).length - n)) := by
        conv => lhs; rw [← hnum]
        rw [Nat.mul_comm, Nat.mul_add_mod, Nat.mod_eq_of_lt hlt]
      rw [← fixd_mod, h4]
      exact h3
    rw [hq, digits_goodW hWg, hr, e]

/-- a power of 10, written -/
theorem digs_pow (k : Nat) : digs (10 ^ k) = 49 :: List.replicate k 48 := by
  have hall : (49 :: List.replicate k (48 : UInt8)).all isDig = true := by
    rw [List.all_cons, ← fixd_zero, fixd_all]
    rfl
  have h := digs_num (l := 49 :: List.replicate k 48) ⟨hall, by simp⟩
  have zn : num (List.replicate k 48) = 0 := by rw [← fixd_zero, num_fixd, Nat.zero_mod]
  rw [num_cons, zn, List.length_replicate, show dv 49 = 1 from rfl, Nat.one_mul, Nat.add_zero] at h
  exact h

end Go.Proofs.YtahnkmkmoalbhaaGreatDoor.Num

/- The plain mathematics of finite numbers: which numbers divide a power of 10. It imports nothing of the program. -/
namespace Go.Proofs.YtahnkmkmoalbhaaGreatDoor.Num

/-- how often k divides d, and what remains -/
def times (k : Nat) : Nat → Nat → Nat × Nat
  | 0, d => (0, d)
  | f + 1, d => if d % k = 0 then ((times k f (d / k)).1 + 1, (times k f (d / k)).2) else (0, d)

theorem times_eq (k : Nat) : ∀ (f d : Nat), d = k ^ (times k f d).1 * (times k f d).2
  | 0, d => by rw [times, Nat.pow_zero, Nat.one_mul]
  | f + 1, d => by
    rw [times]
    by_cases h : d % k = 0
    · rw [if_pos h]
      have ih := times_eq k f (d / k)
      rw [Nat.pow_succ, Nat.mul_comm (k ^ _) k, Nat.mul_assoc, ← ih, Nat.mul_div_cancel' (Nat.dvd_of_mod_eq_zero h)]
    · rw [if_neg h, Nat.pow_zero, Nat.one_mul]
theorem times_pos {k f d : Nat} (h : 0 < d) : 0 < (times k f d).2 := by
  have h1 := times_eq k f d
  apply Nat.pos_of_ne_zero
  intro h2
  rw [h2, Nat.mul_zero] at h1
  omega
end Go.Proofs.YtahnkmkmoalbhaaGreatDoor.Num

/- The plain mathematics of layer 3's program and its reference: what Cut leaves, how a text is put together, the modes, repeated division. -/
namespace Go.Proofs.YtahnkmkmoalbhaaGreatDoor.Num
open Go.Lib (decDigits)

/-- ahead of the first point, and behind it -/
def bef (l : Bs) : Bs := l.takeWhile (· != 46)
def beh (l : Bs) : Bs := (l.dropWhile (· != 46)).tail

theorem bef_eq (l : Bs) : bef l = (if (cut l).1 then [45] else []) ++ dotW l := by
  conv => lhs; rw [cut_eq l]
  unfold bef dotW
  cases (cut l).1
  · simp
  · simp
theorem beh_eq (l : Bs) : beh l = dotF l := by
  conv => lhs; rw [cut_eq l]
  unfold beh dotF dotT
  cases (cut l).1
  · simp
  · simp

theorem num_strip (l : Bs) : num (strip l) = num l := by
  unfold strip
  induction l with
  | nil => rfl
  | cons c r ih =>
    by_cases h : c = 48
    · subst h
      rw [List.dropWhile_cons_of_pos (by rfl), ih, num_cons, show dv 48 = 0 from rfl, Nat.zero_mul, Nat.zero_add]
    · rw [List.dropWhile_cons_of_neg (by simpa using h)]
theorem val_digits {D : Bs} (h : D.all isDig = true) : val D = num D := by
  have hc := cut_of_plain h
  unfold val sneg mag sdig
  rw [hc]
  simp only [h, if_true, num_strip, Bool.false_and, Bool.false_eq_true, if_false]
theorem val_minus {D : Bs} (h : D.all isDig = true) : val (45 :: D) = -(num D : Int) := by
  unfold val sneg mag sdig
  rw [cut_minus]
  simp only [h, if_true, num_strip, Bool.true_and]
  by_cases e : strip D = []
  · have : num D = 0 := by rw [← num_strip, e]; rfl
    simp [e, this]
  · simp [e]

theorem isDec_digits {l : Bs} (h : isDec l = true) : (dotW l ++ dotF l).all isDig = true := by
  unfold isDec at h
  simp only [Bool.and_eq_true, Bool.or_eq_true, Bool.not_eq_true', List.isEmpty_iff, List.isEmpty_eq_false_iff, decide_eq_true_eq] at h
  obtain ⟨⟨h1, h2⟩, h3⟩ := h
  have hF : (dotF l).all isDig = true := by
    rcases h2 with h2 | h2
    · unfold dotF; rw [h2]; rfl
    · exact h2.2
  rw [List.all_append, (goodW_all h1).1, hF]; rfl
/-- the units of a decimal text, as the program reads them -/
theorem val_units {l : Bs} (h : isDec l = true) : val (bef l ++ beh l) = decU l := by
  have hD := isDec_digits h
  rw [bef_eq, beh_eq]
  unfold decU decM
  cases (cut l).1
  · simp only [Bool.false_eq_true, if_false, List.nil_append]
    exact val_digits hD
  · simp only [if_true, List.cons_append, List.nil_append]
    exact val_minus hD
/-- the text that the program compares is the text itself exactly if it is a decimal text -/
theorem good_iff (l : Bs) : decT (val (bef l ++ beh l)) (beh l).length = l ↔ isDec l = true := by
  constructor
  · intro h; rw [← h]; exact isDec_of_text _ _
  · intro h; rw [val_units h, beh_eq]; exact (isDec_text h).symm

/-! ### Where the first point stands -/
def dot (l : Bs) : Nat := (l.takeWhile (· != 46)).length
theorem dot_le (l : Bs) : dot l ≤ l.length := (List.takeWhile_sublist _).length_le
theorem take_bef (l : Bs) : l.take (dot l) = bef l := by
  have h := List.take_left (l₁ := l.takeWhile (· != 46)) (l₂ := l.dropWhile (· != 46))
  rwa [List.takeWhile_append_dropWhile] at h
theorem drop_beh (l : Bs) : l.drop (dot l + 1) = beh l := by
  have h := List.drop_left (l₁ := l.takeWhile (· != 46)) (l₂ := l.dropWhile (· != 46))
  rw [List.takeWhile_append_dropWhile] at h
  rw [← List.drop_drop, show l.drop (dot l) = l.dropWhile (· != 46) from h, List.drop_one]
  rfl
theorem index_dot : ∀ l : Bs, Lib.index l [46] = if dot l < l.length then (dot l : Int) else -1
  | [] => by simp [Lib.index, dot]
  | b :: l => by
    have ih := index_dot l
    by_cases h : b = 46
    · subst h; simp [Lib.index, dot, List.isPrefixOf]
    · have e : dot (b :: l) = dot l + 1 := by simp [dot, h]
      have hp : List.isPrefixOf [46] (b :: l) = false := by simp [List.isPrefixOf]; exact fun e => h e.symm
      rw [Lib.index, hp, ih, e]
      by_cases h2 : dot l < l.length
      · have : ¬ ((dot l : Int) == -1) = true := by simp
        simp [h2, this]
      · simp [h2]
theorem cut_dot (l : Bs) : (Lib.cut l [46]).1 = bef l ∧ (Lib.cut l [46]).2.1 = beh l ∧ (Lib.cut l [46]).2.2 = decide (dot l < l.length) := by
  rw [← take_bef, ← drop_beh]
  unfold Lib.cut
  rw [index_dot]
  by_cases h : dot l < l.length
  · rw [if_pos h, if_pos (by omega)]; simp [h]
  · have hl : dot l = l.length := by have := dot_le l; omega
    rw [if_neg h, if_neg (by omega), hl]; simp
theorem bef_length (l : Bs) : (bef l).length = dot l := rfl
theorem beh_length (l : Bs) : (bef l).length + (beh l).length ≤ l.length := by
  rw [bef_length, ← drop_beh, List.length_drop]
  have := dot_le l
  omega

/-! ### How a text is put together -/
theorem pad_print (m n : Nat) : List.replicate (n + 1 - (decDigits m).length) 48 ++ decDigits m = decDigits (m / 10 ^ n) ++ fixd n m := by
  have h := pad_split m n
  by_cases hm : m = 0
  · subst hm
    rw [← h, decDigits_zero, show digs 0 = [] from rfl, List.append_nil]
    show List.replicate (n + 1 - 1) 48 ++ [48] = List.replicate (n + 1 - 0) 48
    rw [Nat.add_sub_cancel, Nat.sub_zero, List.replicate_succ']
  · have e : digs m = decDigits m := by unfold digs; rw [if_neg hm]
    rwa [e] at h
/-- the digits, padded, at the point -/
theorem at_point (m n : Nat) : (decDigits (m / 10 ^ n) ++ fixd n m).length - n = (decDigits (m / 10 ^ n)).length ∧ n < (decDigits (m / 10 ^ n) ++ fixd n m).length := by
  have h0 : 0 < (decDigits (m / 10 ^ n)).length := List.length_pos_iff.mpr (decDigits_ne _)
  rw [List.length_append, fixd_length]
  omega
theorem decT_list (z : Int) (p : Nat) : decT z p = (if z < 0 then [45] else []) ++ (decDigits (z.natAbs / 10 ^ p) ++ if p = 0 then [] else 46 :: fixd p z.natAbs) := by
  have h : fixd p z.natAbs = [] ↔ p = 0 := by rw [← List.length_eq_zero_iff, fixd_length]
  unfold decT mk
  simp only [h, decide_eq_true_eq]
theorem cut_itoa (z : Int) : cut (Lib.itoa z) = (decide (z < 0), decDigits z.natAbs) := by
  unfold Lib.itoa
  by_cases h : z < 0
  · rw [if_pos h, decide_eq_true h]; rfl
  · rw [if_neg h, decide_eq_false h, show z.toNat = z.natAbs by omega, cut_of_plain (all_decDigits _)]

/-! ### Repeated division -/
/-- how often k divides d, and what remains -/
def tm (k d : Nat) : Nat × Nat := times k d d
theorem tm_eq (k d : Nat) : d = k ^ (tm k d).1 * (tm k d).2 := times_eq k d d
theorem tm_pos {k d : Nat} (hd : 0 < d) : 0 < (tm k d).2 := times_pos hd
theorem tm_le {k d : Nat} (hk : 2 ≤ k) : (tm k d).2 ≤ d := by
  have h := tm_eq k d
  have hp : 0 < k ^ (tm k d).1 := Nat.pow_pos (by omega)
  have h2 := Nat.le_mul_of_pos_left (tm k d).2 hp
  omega
/-- it is not often -/
theorem tm_few {k d c : Nat} (hk : 2 ≤ k) (hd : 0 < d) (h : d < 10 ^ c) : (tm k d).1 < 4 * c := by
  have e := tm_eq k d
  have hp := tm_pos (k := k) hd
  have h1 : k ^ (tm k d).1 ≤ d := by
    conv => rhs; rw [e]
    exact Nat.le_mul_of_pos_right _ hp
  have h2 : 2 ^ (tm k d).1 ≤ k ^ (tm k d).1 := Nat.pow_le_pow_left hk _
  have h3 : 10 ^ c ≤ 2 ^ (4 * c) := by
    rw [Nat.pow_mul]
    exact Nat.pow_le_pow_left (by decide) c
  exact (Nat.pow_lt_pow_iff_right (by decide : 1 < 2)).mp (by omega)
end Go.Proofs.YtahnkmkmoalbhaaGreatDoor.Num

/- The program's layer 3: arePlaces, tenTo, isOdd, goesUp: the walks. -/
namespace Go.Proofs.YtahnkmkmoalbhaaGreatDoor
open Go.RowKit Fra

/-- can there be so many places? -/
def okP (n : Int) : Bool := decide (0 ≤ n ∧ n ≤ 12)
theorem okP_true {n : Int} (h1 : 0 ≤ n) (h2 : n ≤ 12) : okP n = true := decide_eq_true ⟨h1, h2⟩
theorem okP_false {n : Int} (h : n < 0 ∨ 12 < n) : okP n = false := decide_eq_false (fun k => by omega)
theorem dPlaces_any (n : Int) (w : World) :
    Calls Tryz.prog 86 #[.int .i64 n] w fun e w' => e = .returned (.bool (okP n)) ∧ w = w' := by
  by_cases h1 : 0 ≤ n
  · by_cases h2 : n ≤ 12
    · have HD := Lib.hid (okP_true h1 h2)
      go_enter Tryz.func86, Tryz.ntmps86
      go_wp2_with fail
      go_ret
      exact ⟨by rw [HD.out]; rfl, rfl⟩
    · have HD := Lib.hid (okP_false (n := n) (by omega))
      go_enter Tryz.func86, Tryz.ntmps86
      go_wp2_with fail
      go_ret
      exact ⟨by rw [HD.out]; rfl, rfl⟩
  · have HD := Lib.hid (okP_false (n := n) (by omega))
    go_enter Tryz.func86, Tryz.ntmps86
    go_wp2_with fail
    go_ret
    exact ⟨by rw [HD.out]; rfl, rfl⟩

/-- the digits of a power of 10 -/
theorem cS_pow (k : Nat) : cS ((10 : Int) ^ k) = ⟨(49 :: List.replicate k 48).toArray⟩ := by
  unfold cS Num.canon
  have h : ¬ ((10 : Int) ^ k < 0) := by have := Num.pow10 k; omega
  rw [if_neg h, Int.natAbs_pow, show (10 : Int).natAbs = 10 from rfl, Num.digs_pow]
theorem repeat_zero (k : Nat) : Lib.repeatL [48] k = List.replicate k 48 := by
  induction k with
  | zero => rfl
  | succ k ih => rw [List.replicate_succ, ← ih]; rfl
theorem one_zeros (k : Nat) : (ByteArray.mk #[49]) ++ (ByteArray.mk (List.replicate k (48 : UInt8)).toArray) = cS ((10 : Int) ^ k) := by
  rw [cS_pow]
  apply ByteArray.ext
  simp [ByteArray.data_append]

set_option maxHeartbeats 1000000 in
theorem dTen_any (k : Nat) (w : World) (hk : k ≤ 1000000) :
    Calls Tryz.prog 76 #[.int .i64 (k : Int)] w (StrPost w ((10 : Int) ^ k)) := by
  have HE := Lib.hid (one_zeros k)
  have HR := Lib.hid (repeat_zero k)
  obtain ⟨r, hr⟩ : ∃ r, r = ByteArray.mk (List.replicate k (48 : UInt8)).toArray := ⟨_, rfl⟩
  have hs : r.size = k := by rw [hr]; show (List.replicate k (48 : UInt8)).toArray.size = k; simp
  have HQ := Lib.hid hr
  clear hr
  have b1 : ¬ 9223372036854775807 < 1 + r.size := by omega
  go_enter Tryz.func76, Tryz.ntmps76
  go_wp2_with fail
  refine (Tryz.strings_Repeat ⟨#[48]⟩ k w (by omega) (by show 1 * k ≤ _; omega)).mono ?_
  rintro _ w1 ⟨rfl, hB⟩
  rw [show (ByteArray.mk (Lib.repeatL (ByteArray.mk #[48]).data.toList k).toArray) = r by rw [HQ.out, ← HR.out]]
  go_wp2_with fail
  go_ret
  exact ⟨by rw [← HE.out, ← HQ.out]; rfl, hB⟩

end Go.Proofs.YtahnkmkmoalbhaaGreatDoor
