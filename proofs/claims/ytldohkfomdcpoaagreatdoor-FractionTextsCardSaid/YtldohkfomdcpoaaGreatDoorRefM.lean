/- The reference implementation of layer 1: the sum of two numbers: the walk. -/
import Derived.Test.YtldohkfomdcpoaaGreatDoorRefL
namespace Go.Proofs.YtldohkfomdcpoaaGreatDoor
open Go.RowKit

/-- the result of a function that makes a number: a struct with this value -/
def NewNum (w : World) (z : Int) (e : Ending) (w' : World) : Prop :=
  ∃ ng xa cap zs, e = .returned (.agg #[.bool ng, .slice xa (List.length zs) cap]) ∧ Num.Can zs ∧ sg ng (Num.gval zs) = z ∧ Rd w' xa cap zs ∧ zs.length ≤ 400 ∧ Below w.heap.size w w' ∧ ∀ b o, xa = some ⟨b, o, none⟩ → w.heap.size ≤ b

theorem sum_length {xs ys zs : List Int} (cz : Num.Can zs) (cx : Num.Norm xs) (cy : Num.Norm ys) (h : Num.gval zs = Num.gval xs + Num.gval ys) {k : Nat} (hk : xs.length ≤ k) (hk2 : ys.length ≤ k) : zs.length ≤ k + 1 := by
  by_cases h0 : zs = []
  · rw [h0]; simp
  · have h1 := Num.gval_ge cz h0
    have h2 := Num.gval_lt cx
    have h3 := Num.gval_lt cy
    have h4 := Num.Bpow_mono hk
    have h5 := Num.Bpow_mono hk2
    by_cases hl : zs.length ≤ k + 1
    · exact hl
    · have h6 := Num.Bpow_mono (show k + 1 ≤ zs.length - 1 by omega)
      rw [Int.pow_succ] at h6
      have h7 := Num.Bpow_pos k
      unfold Num.B at *
      omega
theorem diff_length {xs zs : List Int} (cz : Num.Can zs) (cx : Num.Norm xs) (h : Num.gval zs ≤ Num.gval xs) : zs.length ≤ xs.length := by
  by_cases h0 : zs = []
  · rw [h0]; simp
  · have h1 := Num.gval_ge cz h0
    have h2 := Num.gval_lt cx
    by_cases hl : zs.length ≤ xs.length
    · exact hl
    · have h6 := Num.Bpow_mono (show xs.length ≤ zs.length - 1 by omega)
      omega

/-- the three structs of a sum -/
structure Three (W : World) (B : Nat) (na nb : Bool) (u v : Value) : Prop where
  a : NumAt W B na u
  b : NumAt W (B + 1) nb v
  r : NumAt W (B + 2) false (.slice none 0 0)
theorem Three.below {W W' : World} {B : Nat} {na nb : Bool} {u v : Value} (h : Three W B na nb u v) (hb : Below W.heap.size W W') : Three W' B na nb u v :=
  ⟨h.a.below hb h.a.lt, h.b.below hb h.b.lt, h.r.below hb h.r.lt⟩
theorem Three.drewN {W : World} {B : Nat} {na nb : Bool} {u v : Value} (h : Three W B na nb u v) (q : Nat) : Three (W.drewN q) B na nb u v := ⟨h.a, h.b, h.r⟩
theorem NumAt.made (w : World) (ng : Bool) (v : Value) : NumAt (w.alloc (.cells #[.bool ng, v] 82)) w.heap.size ng v := heap_alloc_new w _
theorem Three.made (w : World) (na nb : Bool) (u v : Value) : Three (((w.alloc (.cells #[.bool na, u] 82)).alloc (.cells #[.bool nb, v] 82)).alloc (.cells #[.bool false, .slice none 0 0] 82)) w.heap.size na nb u v := by
  have h1 := NumAt.made w na u
  have h2 := NumAt.made (w.alloc (.cells #[.bool na, u] 82)) nb v
  have h3 := NumAt.made ((w.alloc (.cells #[.bool na, u] 82)).alloc (.cells #[.bool nb, v] 82)) false (.slice none 0 0)
  refine ⟨(h1.alloc _).alloc _, ?_, ?_⟩
  · have := h2.alloc (.cells #[.bool false, .slice none 0 0] 82)
    simpa using this
  · simpa using h3

/-- the sum's struct is written -/
theorem Three.done {w W : World} {na nb ng : Bool} {u v : Value} {xa : Option Addr} {cap : Nat} {zs : List Int} {z : Int} (h : Three W w.heap.size na nb u v) (hB : Below w.heap.size w W) (hz : Num.Can zs) (hv : sg ng (Num.gval zs) = z) (hl : zs.length ≤ 400) (hfr : ∀ b o, xa = some ⟨b, o, none⟩ → w.heap.size ≤ b)
    (hrd : Rd ((W.setCell ⟨w.heap.size + 2, 0, none⟩ (.bool ng)).setCell ⟨w.heap.size + 2, 1, none⟩ (.slice xa zs.length cap)) xa cap zs) :
    NumAt ((W.setCell ⟨w.heap.size + 2, 0, none⟩ (.bool ng)).setCell ⟨w.heap.size + 2, 1, none⟩ (.slice xa zs.length cap)) (w.heap.size + 2) ng (.slice xa zs.length cap) ∧
    NewNum w z (.returned (.agg #[.bool ng, .slice xa zs.length cap])) ((W.setCell ⟨w.heap.size + 2, 0, none⟩ (.bool ng)).setCell ⟨w.heap.size + 2, 1, none⟩ (.slice xa zs.length cap)) :=
  ⟨(h.r.set0 ng).set _, ng, xa, cap, zs, rfl, hz, hv, hrd, hl, (hB.setCell (p := ⟨w.heap.size + 2, 0, none⟩) (by simp) _).setCell (p := ⟨w.heap.size + 2, 1, none⟩) (by simp) _, hfr⟩

set_option maxRecDepth 100000 in
set_option maxHeartbeats 4000000 in
theorem rAdd_same (na : Bool) (w : World) (xa ya : Option Addr) (cap capy n m : Nat) (xs ys : List Int) (hn : xs.length = n) (hm : ys.length = m) (hx : Rd w xa cap xs) (hy : Rd w ya capy ys) (cx : Num.Can xs) (cy : Num.Can ys) (hlim : n ≤ 300 ∧ m ≤ 300) :
    Calls Tryz.prog 85 #[.agg #[.bool na, .slice xa n cap], .agg #[.bool na, .slice ya m capy]] w (NewNum w (sg na (Num.gval xs) + sg na (Num.gval ys))) := by
  have g0 := Num.gval_nonneg cx.1
  have g1 := Num.gval_nonneg cy.1
  obtain ⟨zs, hzs⟩ : ∃ zs, zs = Num.groups (Num.gval xs + Num.gval ys) := ⟨_, rfl⟩
  have hzc : Num.Can zs := by rw [hzs]; exact Num.Can.groups _
  have hzg : Num.gval zs = Num.gval xs + Num.gval ys := by rw [hzs, Num.gval_groups (by omega)]
  have hzl : zs.length ≤ 400 := by have := sum_length hzc cx.1 cy.1 hzg (k := 300) (by omega) (by omega); omega
  have hv : sg na (Num.gval zs) = sg na (Num.gval xs) + sg na (Num.gval ys) := by rw [hzg]; cases na <;> simp [sg]; omega
  obtain ⟨W0, hW0⟩ : ∃ W0, W0 = ((w.alloc (.cells #[.bool na, .slice xa n cap] 82)).alloc (.cells #[.bool na, .slice ya m capy] 82)).alloc (.cells #[.bool false, .slice none 0 0] 82) := ⟨_, rfl⟩
  have hB0 : Below w.heap.size w W0 := by rw [hW0]; exact (((Below.refl _ _).alloc (Nat.le_refl _) _).alloc (by simp) _).alloc (by simp; omega) _
  have h3 : Three W0 w.heap.size na na (.slice xa n cap) (.slice ya m capy) := by rw [hW0]; exact Three.made _ _ _ _ _
  have HRX := Lib.hid (fun q => (hx.below hB0).drewN q)
  have HRY := Lib.hid (fun q => (hy.below hB0).drewN q)
  have HT := Lib.hid h3
  have HB0 := Lib.hid hB0
  have HN := Lib.hid hn
  have HM := Lib.hid hm
  have HZG := Lib.hid hzg
  have HZL := Lib.hid hzl
  have HV := Lib.hid hv
  clear hn hm hzs hzg hzl hv hx hy h3 hB0
  have hbb : (na == na) = true := by simp
  go_enter Tryz.func85, Tryz.ntmps85
  go_wp2_with fail
  rw [← hW0]
  clear hW0
  obtain ⟨a0, a1, _, _⟩ := HT.out.a.cells
  obtain ⟨b0, b1, _, _⟩ := HT.out.b.cells
  have hne1 : w.heap.size + 1 + 1 ≠ w.heap.size := by omega
  have hne2 : w.heap.size ≠ w.heap.size + 1 + 1 := by omega
  go_region_held3 (fun w' => w'.cell? ⟨w.heap.size, 0, none⟩ = some (.bool na) ∧ w'.cell? ⟨w.heap.size, 1, none⟩ = some (.slice xa n cap) ∧ w'.cell? ⟨w.heap.size + 1, 0, none⟩ = some (.bool na) ∧ w'.cell? ⟨w.heap.size + 1, 1, none⟩ = some (.slice ya m capy))
    (go_keep)
    (first | (go_at_call 112; refine (rPlus_any _ xa ya cap capy n m xs ys HN.out HM.out (HRX.out _) (HRY.out _) cx cy (by omega) zs hzc HZG.out).mono ?_; rintro e W3 ⟨va, vc, rfl, hrd, hB3, hfr, _⟩; have HT3 := Lib.hid ((HT.out.drewN _).below hB3); obtain ⟨k0, k1, _, _⟩ := HT3.out.a.cells; obtain ⟨l0, l1, _, _⟩ := HT3.out.b.cells; obtain ⟨r0, r1, f0, f1⟩ := HT3.out.r.cells; have HB3 := Lib.hid ((below_drewN HB0.out _).trans (hB3.mono HB0.out.size)); have HD := Lib.hid (HT3.out.done HB3.out hzc HV.out HZL.out (fun b o e => Nat.le_trans HB0.out.size (hfr b o e)) ((hrd.setOther (a := ⟨w.heap.size + 2, 0, none⟩) (fun b o e => by have := hfr b o e; have := HT.out.r.lt; exact Nat.ne_of_gt (Nat.lt_of_lt_of_le HT.out.r.lt (hfr b o e))) (.bool na)).setOther (a := ⟨w.heap.size + 2, 1, none⟩) (fun b o e => Nat.ne_of_gt (Nat.lt_of_lt_of_le HT.out.r.lt (hfr b o e))) (.slice va zs.length vc))); clear hB3 hrd hfr))
  go_wp2_with fail
  obtain ⟨k0, k1, _, _⟩ := HD.out.1.cells
  exact bodyPost_ret (v := .agg #[.bool na, .slice va zs.length vc]) (by simp [results, Tryz.results85, go_sem, k0, k1]) rfl HD.out.2

set_option maxRecDepth 100000 in
set_option maxHeartbeats 4000000 in
theorem rAdd_ge (na nb : Bool) (w : World) (xa ya : Option Addr) (cap capy n m : Nat) (xs ys : List Int) (hn : xs.length = n) (hm : ys.length = m) (hx : Rd w xa cap xs) (hy : Rd w ya capy ys) (cx : Num.Can xs) (cy : Num.Can ys) (hlim : n ≤ 300 ∧ m ≤ 300) (hne : na ≠ nb) (hlt : ¬ Num.gval xs < Num.gval ys) :
    Calls Tryz.prog 85 #[.agg #[.bool na, .slice xa n cap], .agg #[.bool nb, .slice ya m capy]] w (NewNum w (sg na (Num.gval xs) + sg nb (Num.gval ys))) := by
  have g0 := Num.gval_nonneg cx.1
  have g1 := Num.gval_nonneg cy.1
  obtain ⟨zs, hzs⟩ : ∃ zs, zs = Num.groups (Num.gval xs - Num.gval ys) := ⟨_, rfl⟩
  have hzc : Num.Can zs := by rw [hzs]; exact Num.Can.groups _
  have hzg : Num.gval zs = Num.gval xs - Num.gval ys := by rw [hzs, Num.gval_groups (by omega)]
  have hzl : zs.length ≤ 400 := by have := diff_length hzc cx.1 (by omega); omega
  have hv : sg na (Num.gval zs) = sg na (Num.gval xs) + sg nb (Num.gval ys) := by rw [hzg]; cases na <;> cases nb <;> simp [sg] at hne ⊢ <;> omega
  obtain ⟨W0, hW0⟩ : ∃ W0, W0 = ((w.alloc (.cells #[.bool na, .slice xa n cap] 82)).alloc (.cells #[.bool nb, .slice ya m capy] 82)).alloc (.cells #[.bool false, .slice none 0 0] 82) := ⟨_, rfl⟩
  have hB0 : Below w.heap.size w W0 := by rw [hW0]; exact (((Below.refl _ _).alloc (Nat.le_refl _) _).alloc (by simp) _).alloc (by simp; omega) _
  have h3 : Three W0 w.heap.size na nb (.slice xa n cap) (.slice ya m capy) := by rw [hW0]; exact Three.made _ _ _ _ _
  have HRX := Lib.hid (fun q => (hx.below hB0).drewN q)
  have HRY := Lib.hid (fun q => (hy.below hB0).drewN q)
  have HT := Lib.hid h3
  have HB0 := Lib.hid hB0
  have HN := Lib.hid hn
  have HM := Lib.hid hm
  have HZG := Lib.hid hzg
  have HZL := Lib.hid hzl
  have HV := Lib.hid hv
  clear hn hm hzs hzg hzl hv hx hy h3 hB0
  have hbb : (na == nb) = false := by simpa using hne
  clear hne
  go_enter Tryz.func85, Tryz.ntmps85
  go_wp2_with fail
  rw [← hW0]
  clear hW0
  obtain ⟨a0, a1, _, _⟩ := HT.out.a.cells
  obtain ⟨b0, b1, _, _⟩ := HT.out.b.cells
  obtain ⟨c, hc⟩ : ∃ c, c = cmp3 (Num.gval xs) (Num.gval ys) := ⟨_, rfl⟩
  have hcc : ¬ c < 0 := by rw [hc]; unfold cmp3; rw [if_neg (by omega)]; split <;> omega
  have HC := Lib.hid hc
  clear hc
  refine (rOrder_any W0 xa ya cap capy n m xs ys HN.out HM.out (HRX.out 0) (HRY.out 0) cx cy).mono ?_
  rintro e _ ⟨rfl, k, rfl⟩
  rw [← HC.out]
  go_wp2_with fail
  have hne1 : w.heap.size + 1 + 1 ≠ w.heap.size := by omega
  have hne2 : w.heap.size ≠ w.heap.size + 1 + 1 := by omega
  go_region_held3 (fun w' => w'.cell? ⟨w.heap.size, 0, none⟩ = some (.bool na) ∧ w'.cell? ⟨w.heap.size, 1, none⟩ = some (.slice xa n cap) ∧ w'.cell? ⟨w.heap.size + 1, 0, none⟩ = some (.bool nb) ∧ w'.cell? ⟨w.heap.size + 1, 1, none⟩ = some (.slice ya m capy))
    (go_keep)
    (first | (go_at_call 111; refine (rMinus_any _ xa ya cap capy n m xs ys HN.out HM.out (HRX.out _) (HRY.out _) cx cy (by omega) zs hzc HZG.out).mono ?_; rintro e W3 ⟨va, vc, rfl, hrd, hB3, hfr, _⟩; have HT3 := Lib.hid ((HT.out.drewN _).below hB3); obtain ⟨k0, k1, _, _⟩ := HT3.out.a.cells; obtain ⟨l0, l1, _, _⟩ := HT3.out.b.cells; obtain ⟨r0, r1, f0, f1⟩ := HT3.out.r.cells; have HB3 := Lib.hid ((below_drewN HB0.out _).trans (hB3.mono HB0.out.size)); have HD := Lib.hid (HT3.out.done HB3.out hzc HV.out HZL.out (fun b o e => Nat.le_trans HB0.out.size (hfr b o e)) ((hrd.setOther (a := ⟨w.heap.size + 2, 0, none⟩) (fun b o e => by have := hfr b o e; have := HT.out.r.lt; exact Nat.ne_of_gt (Nat.lt_of_lt_of_le HT.out.r.lt (hfr b o e))) (.bool na)).setOther (a := ⟨w.heap.size + 2, 1, none⟩) (fun b o e => Nat.ne_of_gt (Nat.lt_of_lt_of_le HT.out.r.lt (hfr b o e))) (.slice va zs.length vc))); clear hB3 hrd hfr))
  go_wp2_with fail
  obtain ⟨k0, k1, _, _⟩ := HD.out.1.cells
  exact bodyPost_ret (v := .agg #[.bool na, .slice va zs.length vc]) (by simp [results, Tryz.results85, go_sem, k0, k1]) rfl HD.out.2

set_option maxRecDepth 100000 in
set_option maxHeartbeats 4000000 in
theorem rAdd_lt (na nb : Bool) (w : World) (xa ya : Option Addr) (cap capy n m : Nat) (xs ys : List Int) (hn : xs.length = n) (hm : ys.length = m) (hx : Rd w xa cap xs) (hy : Rd w ya capy ys) (cx : Num.Can xs) (cy : Num.Can ys) (hlim : n ≤ 300 ∧ m ≤ 300) (hne : na ≠ nb) (hlt : Num.gval xs < Num.gval ys) :
    Calls Tryz.prog 85 #[.agg #[.bool na, .slice xa n cap], .agg #[.bool nb, .slice ya m capy]] w (NewNum w (sg na (Num.gval xs) + sg nb (Num.gval ys))) := by
  have g0 := Num.gval_nonneg cx.1
  have g1 := Num.gval_nonneg cy.1
  obtain ⟨zs, hzs⟩ : ∃ zs, zs = Num.groups (Num.gval ys - Num.gval xs) := ⟨_, rfl⟩
  have hzc : Num.Can zs := by rw [hzs]; exact Num.Can.groups _
  have hzg : Num.gval zs = Num.gval ys - Num.gval xs := by rw [hzs, Num.gval_groups (by omega)]
  have hzl : zs.length ≤ 400 := by have := diff_length hzc cy.1 (by omega); omega
  have hv : sg nb (Num.gval zs) = sg na (Num.gval xs) + sg nb (Num.gval ys) := by rw [hzg]; cases na <;> cases nb <;> simp [sg] at hne ⊢ <;> omega
  obtain ⟨W0, hW0⟩ : ∃ W0, W0 = ((w.alloc (.cells #[.bool na, .slice xa n cap] 82)).alloc (.cells #[.bool nb, .slice ya m capy] 82)).alloc (.cells #[.bool false, .slice none 0 0] 82) := ⟨_, rfl⟩
  have hB0 : Below w.heap.size w W0 := by rw [hW0]; exact (((Below.refl _ _).alloc (Nat.le_refl _) _).alloc (by simp) _).alloc (by simp; omega) _
  have h3 : Three W0 w.heap.size na nb (.slice xa n cap) (.slice ya m capy) := by rw [hW0]; exact Three.made _ _ _ _ _
  have HRX := Lib.hid (fun q => (hx.below hB0).drewN q)
  have HRY := Lib.hid (fun q => (hy.below hB0).drewN q)
  have HT := Lib.hid h3
  have HB0 := Lib.hid hB0
  have HN := Lib.hid hn
  have HM := Lib.hid hm
  have HZG := Lib.hid hzg
  have HZL := Lib.hid hzl
  have HV := Lib.hid hv
  clear hn hm hzs hzg hzl hv hx hy h3 hB0
  have hbb : (na == nb) = false := by simpa using hne
  clear hne
  go_enter Tryz.func85, Tryz.ntmps85
  go_wp2_with fail
  rw [← hW0]
  clear hW0
  obtain ⟨a0, a1, _, _⟩ := HT.out.a.cells
  obtain ⟨b0, b1, _, _⟩ := HT.out.b.cells
  obtain ⟨c, hc⟩ : ∃ c, c = cmp3 (Num.gval xs) (Num.gval ys) := ⟨_, rfl⟩
  have hcc : c < 0 := by rw [hc]; unfold cmp3; rw [if_pos hlt]; decide
  have HC := Lib.hid hc
  clear hc
  refine (rOrder_any W0 xa ya cap capy n m xs ys HN.out HM.out (HRX.out 0) (HRY.out 0) cx cy).mono ?_
  rintro e _ ⟨rfl, k, rfl⟩
  rw [← HC.out]
  go_wp2_with fail
  have hne1 : w.heap.size + 1 + 1 ≠ w.heap.size := by omega
  have hne2 : w.heap.size ≠ w.heap.size + 1 + 1 := by omega
  go_region_held3 (fun w' => w'.cell? ⟨w.heap.size, 0, none⟩ = some (.bool na) ∧ w'.cell? ⟨w.heap.size, 1, none⟩ = some (.slice xa n cap) ∧ w'.cell? ⟨w.heap.size + 1, 0, none⟩ = some (.bool nb) ∧ w'.cell? ⟨w.heap.size + 1, 1, none⟩ = some (.slice ya m capy))
    (go_keep)
    (first | (go_at_call 111; refine (rMinus_any _ ya xa capy cap m n ys xs HM.out HN.out (HRY.out _) (HRX.out _) cy cx (by omega) zs hzc HZG.out).mono ?_; rintro e W3 ⟨va, vc, rfl, hrd, hB3, hfr, _⟩; have HT3 := Lib.hid ((HT.out.drewN _).below hB3); obtain ⟨k0, k1, _, _⟩ := HT3.out.a.cells; obtain ⟨l0, l1, _, _⟩ := HT3.out.b.cells; obtain ⟨r0, r1, f0, f1⟩ := HT3.out.r.cells; have HB3 := Lib.hid ((below_drewN HB0.out _).trans (hB3.mono HB0.out.size)); have HD := Lib.hid (HT3.out.done HB3.out hzc HV.out HZL.out (fun b o e => Nat.le_trans HB0.out.size (hfr b o e)) ((hrd.setOther (a := ⟨w.heap.size + 2, 0, none⟩) (fun b o e => by have := hfr b o e; have := HT.out.r.lt; exact Nat.ne_of_gt (Nat.lt_of_lt_of_le HT.out.r.lt (hfr b o e))) (.bool nb)).setOther (a := ⟨w.heap.size + 2, 1, none⟩) (fun b o e => Nat.ne_of_gt (Nat.lt_of_lt_of_le HT.out.r.lt (hfr b o e))) (.slice va zs.length vc))); clear hB3 hrd hfr))
  go_wp2_with fail
  obtain ⟨k0, k1, _, _⟩ := HD.out.1.cells
  exact bodyPost_ret (v := .agg #[.bool nb, .slice va zs.length vc]) (by simp [results, Tryz.results85, go_sem, k0, k1]) rfl HD.out.2

/-- the sum of two numbers -/
theorem rAdd_num (na nb : Bool) (w : World) (xa ya : Option Addr) (cap capy n m : Nat) (xs ys : List Int) (hn : xs.length = n) (hm : ys.length = m) (hx : Rd w xa cap xs) (hy : Rd w ya capy ys) (cx : Num.Can xs) (cy : Num.Can ys) (hlim : n ≤ 300 ∧ m ≤ 300) :
    Calls Tryz.prog 85 #[.agg #[.bool na, .slice xa n cap], .agg #[.bool nb, .slice ya m capy]] w (NewNum w (sg na (Num.gval xs) + sg nb (Num.gval ys))) := by
  by_cases h : na = nb
  · subst h
    exact rAdd_same na w xa ya cap capy n m xs ys hn hm hx hy cx cy hlim
  · by_cases hlt : Num.gval xs < Num.gval ys
    · exact rAdd_lt na nb w xa ya cap capy n m xs ys hn hm hx hy cx cy hlim h hlt
    · exact rAdd_ge na nb w xa ya cap capy n m xs ys hn hm hx hy cx cy hlim h hlt

end Go.Proofs.YtldohkfomdcpoaaGreatDoor
