/- The reference implementation of layer 1: Mul: the walk. -/
import Derived.Test.YtldohkfomdcpoaaGreatDoorRefK
import Derived.Deep.RegionHeld3
namespace Go.Proofs.YtldohkfomdcpoaaGreatDoor
open Go.RowKit

theorem NumAt.alloc {w : World} {b : Nat} {ng : Bool} {v : Value} (h : NumAt w b ng v) (o : Obj) : NumAt (w.alloc o) b ng v := by
  have hlt : b < w.heap.size := by
    rcases Nat.lt_or_ge b w.heap.size with h' | h'
    · exact h'
    · unfold NumAt at h; rw [Array.getElem?_eq_none h'] at h; simp at h
  exact h.below ((Below.refl w.heap.size w).alloc (Nat.le_refl _) o) hlt
theorem NumAt.lt {w : World} {b : Nat} {ng : Bool} {v : Value} (h : NumAt w b ng v) : b < w.heap.size := by
  rcases Nat.lt_or_ge b w.heap.size with h' | h'
  · exact h'
  · unfold NumAt at h; rw [Array.getElem?_eq_none h'] at h; simp at h

theorem gS_length2 (s : ByteArray) (hs : s.size ≤ 1000) : (gS s).length ≤ 120 := by
  unfold gS; rw [Num.grps_length]
  have := Num.sdig_length s.data.toList
  rw [size_toList] at this; omega
theorem prod_length {xs ys zs : List Int} (cz : Num.Can zs) (cx : Num.Norm xs) (cy : Num.Norm ys) (h : Num.gval zs = Num.gval xs * Num.gval ys) {k : Nat} (hk : xs.length + ys.length ≤ k) : zs.length ≤ k := by
  by_cases h0 : zs = []
  · rw [h0]; simp
  · have h1 := Num.gval_ge cz h0
    have h2 := Num.gval_lt cx
    have h3 := Num.gval_lt cy
    have h4 := Num.gval_nonneg cx
    have h6 : Num.gval xs * Num.gval ys < Num.B ^ (xs.length + ys.length) := by
      rw [Int.pow_add]
      have h7 := Int.mul_le_mul_of_nonneg_left (Int.le_of_lt h3) h4
      have h8 := Int.mul_lt_mul_of_pos_right h2 (Num.Bpow_pos ys.length)
      omega
    by_cases hl : zs.length ≤ k
    · exact hl
    · have := Num.Bpow_mono (show xs.length + ys.length ≤ zs.length - 1 by omega)
      omega

set_option maxRecDepth 100000 in
set_option maxHeartbeats 4000000 in
theorem rMul_way (a b : ByteArray) (w : World) (ha : a.size ≤ 1000) (hb : b.size ≤ 1000) (m p : Int) (is q : Bool) (hsa : shortV a = .tuple #[.int .i64 m, .bool is]) (hsb : shortV b = .tuple #[.int .i64 p, .bool q])
    (hway : is = false ∨ (is = true ∧ q = false) ∨ (is = true ∧ q = true ∧ ¬ m < 1000000000) ∨ (is = true ∧ q = true ∧ m < 1000000000 ∧ ¬ -1000000000 < m) ∨ (is = true ∧ q = true ∧ m < 1000000000 ∧ -1000000000 < m ∧ ¬ p < 1000000000) ∨ (is = true ∧ q = true ∧ m < 1000000000 ∧ -1000000000 < m ∧ p < 1000000000 ∧ ¬ -1000000000 < p)) :
    Calls Tryz.prog 51 #[.string a, .string b] w (StrPost w (vS a * vS b)) := by
  have HSA := Lib.hid hsa
  have HSB := Lib.hid hsb
  clear hsa hsb
  rcases hway with rfl | ⟨rfl, rfl⟩ | ⟨rfl, rfl, h1⟩ | ⟨rfl, rfl, h1, h2⟩ | ⟨rfl, rfl, h1, h2, h3⟩ | ⟨rfl, rfl, h1, h2, h3, h4⟩
  all_goals
    go_enter Tryz.func51, Tryz.ntmps51
    go_wp2_with fail
    refine (short_any a w (by omega)).mono ?_
    rintro e _ ⟨rfl, rfl⟩
    rw [HSA.out]
    go_wp2_with fail
    refine (short_any b w (by omega)).mono ?_
    rintro e _ ⟨rfl, rfl⟩
    rw [HSB.out]
    go_wp2_with fail
    refine (rRead_any a w ha).mono ?_
    rintro e w1 ⟨xa, cx, rfl, hrx, hB1⟩
    go_wp2_with fail
    refine (rRead_any b w1 hb).mono ?_
    rintro e w2 ⟨ya, cy, rfl, hry, hB2⟩
    have hrx2 := hrx.below hB2
    have hB : Below w.heap.size w w2 := hB1.trans (hB2.mono hB1.size)
    clear hB1 hB2 hrx
    have hla := gS_length2 a ha
    have hlb := gS_length2 b hb
    obtain ⟨na, hna⟩ : ∃ na, na = Num.sneg a.data.toList := ⟨_, rfl⟩
    obtain ⟨nb, hnb⟩ : ∃ nb, nb = Num.sneg b.data.toList := ⟨_, rfl⟩
    obtain ⟨zs, hzs⟩ : ∃ zs, zs = Num.groups (Num.gval (gS a) * Num.gval (gS b)) := ⟨_, rfl⟩
    have hzc : Num.Can zs := by rw [hzs]; exact Num.Can.groups _
    have hzg : Num.gval zs = Num.gval (gS a) * Num.gval (gS b) := by rw [hzs, Num.gval_groups (Int.mul_nonneg (Num.gval_nonneg (gS_can a).1) (Num.gval_nonneg (gS_can b).1))]
    have hzl : zs.length ≤ 1000 := prod_length hzc (gS_can a).1 (gS_can b).1 hzg (by omega)
    have hv : sg (na != nb) (Num.gval zs) = vS a * vS b := by
      rw [hzg, vS_sg a, vS_sg b, ← hna, ← hnb]; cases na <;> cases nb <;> simp [sg, Int.neg_mul, Int.mul_neg]
    rw [← hna, ← hnb]
    obtain ⟨W0, hW0⟩ : ∃ W0, W0 = (w2.alloc (.cells #[.bool na, .slice xa (gS a).length cx] 82)).alloc (.cells #[.bool nb, .slice ya (gS b).length cy] 82) := ⟨_, rfl⟩
    have hB0 : Below w2.heap.size w2 W0 := by rw [hW0]; exact ((Below.refl _ _).alloc (Nat.le_refl _) _).alloc (by simp) _
    have hNa : NumAt W0 w2.heap.size na (.slice xa (gS a).length cx) := by
      rw [hW0]; exact NumAt.alloc (show NumAt (w2.alloc _) w2.heap.size na _ from heap_alloc_new w2 _) _
    have hNb : NumAt W0 (w2.heap.size + 1) nb (.slice ya (gS b).length cy) := by
      rw [hW0]
      have := heap_alloc_new (w2.alloc (.cells #[.bool na, .slice xa (gS a).length cx] 82)) (.cells #[.bool nb, .slice ya (gS b).length cy] 82)
      simpa [NumAt] using this
    obtain ⟨a0, a1, _, _⟩ := hNa.cells
    obtain ⟨b0, b1, _, _⟩ := hNb.cells
    have HRX := Lib.hid (fun q => (hrx2.below hB0).drewN q)
    have HRY := Lib.hid (fun q => (hry.below hB0).drewN q)
    have HNa := Lib.hid hNa
    have HNb := Lib.hid hNb
    have HV := Lib.hid hv
    have HZG := Lib.hid hzg
    have HZL := Lib.hid hzl
    have HBB := Lib.hid (hB.trans (hB0.mono hB.size))
    clear hrx2 hry hNa hNb hv hzg hzs hna hnb hB hzl
    go_wp2_with fail
    rw [← hW0]
    clear hW0 hB0
    go_region_held3 (fun w' => w'.cell? ⟨w2.heap.size, 0, none⟩ = some (.bool na) ∧ w'.cell? ⟨w2.heap.size, 1, none⟩ = some (.slice xa (gS a).length cx) ∧ w'.cell? ⟨w2.heap.size + 1, 0, none⟩ = some (.bool nb) ∧ w'.cell? ⟨w2.heap.size + 1, 1, none⟩ = some (.slice ya (gS b).length cy))
      (go_keep)
      (first
        | (go_at_call 79; refine (rTimes_any _ xa ya cx cy _ _ (gS a) (gS b) rfl rfl (HRX.out _) (HRY.out _) (gS_can a).1 (gS_can b).1 (by omega) zs hzc HZG.out).mono ?_; rintro e W3 ⟨va, vc, rfl, hrd, hB3, _⟩; have HN3 := Lib.hid (NumAt.below (show NumAt (W0.drewN _) _ _ _ from HNa.out) hB3 HNa.out.lt); have HM3 := Lib.hid (NumAt.below (show NumAt (W0.drewN _) _ _ _ from HNb.out) hB3 HNb.out.lt); obtain ⟨k0, k1, _, _⟩ := HN3.out.cells; obtain ⟨l0, l1, _, _⟩ := HM3.out.cells; have HRD := Lib.hid hrd; have HB3 := Lib.hid ((below_drewN HBB.out _).trans (hB3.mono HBB.out.size)); clear hB3 hrd)
        | (go_at_call 78; refine (rWrite_any _ _ va vc _ zs rfl HRD.out hzc.1 HZL.out).mono ?_; rintro e W4 ⟨rfl, hB4⟩; obtain ⟨m0, m1, _, _⟩ := (HN3.out.below hB4 HN3.out.lt).cells; obtain ⟨n0, n1, _, _⟩ := (HM3.out.below hB4 HM3.out.lt).cells; have HB4 := Lib.hid (HB3.out.trans (hB4.mono HB3.out.size)); clear hB4))
    go_wp2_with fail
    go_ret
    exact ⟨by rw [← HV.out]; cases na <;> cases nb <;> rfl, HB4.out⟩


theorem prod_small {m p : Int} (h1 : m < 1000000000) (h2 : -1000000000 < m) (h3 : p < 1000000000) (h4 : -1000000000 < p) : -999999998000000001 ≤ m * p ∧ m * p ≤ 999999998000000001 := by
  have h := Int.natAbs_mul m p
  have h5 : m.natAbs * p.natAbs ≤ 999999999 * 999999999 := Nat.mul_le_mul (by omega) (by omega)
  omega

set_option maxRecDepth 100000 in
set_option maxHeartbeats 4000000 in
theorem rMul_short (a b : ByteArray) (w : World) (ha : a.size ≤ 1000) (hb : b.size ≤ 1000) (m p : Int) (hsa : shortV a = .tuple #[.int .i64 m, .bool true]) (hsb : shortV b = .tuple #[.int .i64 p, .bool true])
    (h1 : m < 1000000000) (h2 : -1000000000 < m) (h3 : p < 1000000000) (h4 : -1000000000 < p) :
    Calls Tryz.prog 51 #[.string a, .string b] w fun e w' => e = .returned (.string (cS (m * p))) ∧ w = w' := by
  have HSA := Lib.hid hsa
  have HSB := Lib.hid hsb
  obtain ⟨h5, h6⟩ := prod_small h1 h2 h3 h4
  clear hsa hsb
  go_enter Tryz.func51, Tryz.ntmps51
  go_wp2_with fail
  refine (short_any a w (by omega)).mono ?_
  rintro e _ ⟨rfl, rfl⟩
  rw [HSA.out]
  go_wp2_with fail
  refine (short_any b w (by omega)).mono ?_
  rintro e _ ⟨rfl, rfl⟩
  rw [HSB.out]
  go_wp2_with fail
  refine (rOf_any (m * p) w (by omega) (by omega)).mono ?_
  rintro e _ ⟨rfl, rfl⟩
  go_wp2_with fail
  go_ret
  exact ⟨rfl, rfl⟩

theorem shortV_ways (a : ByteArray) : shortV a = .tuple #[.int .i64 (vS a), .bool true] ∨ shortV a = .tuple #[.int .i64 0, .bool false] := by
  unfold shortV; split
  · exact .inl rfl
  · exact .inr rfl

theorem rMul_any (a b : ByteArray) (w : World) (ha : a.size ≤ 1000) (hb : b.size ≤ 1000) :
    Calls Tryz.prog 51 #[.string a, .string b] w (StrPost w (vS a * vS b)) := by
  rcases shortV_ways a with hsa | hsa
  · rcases shortV_ways b with hsb | hsb
    · by_cases h : vS a < 1000000000 ∧ -1000000000 < vS a ∧ vS b < 1000000000 ∧ -1000000000 < vS b
      · exact (rMul_short a b w ha hb _ _ hsa hsb h.1 h.2.1 h.2.2.1 h.2.2.2).mono fun e w' hh => ⟨hh.1, hh.2 ▸ Below.refl _ _⟩
      · exact rMul_way a b w ha hb _ _ _ _ hsa hsb (by simp only [true_and, Bool.true_eq_false, false_or]; omega)
    · exact rMul_way a b w ha hb _ _ _ _ hsa hsb (.inr (.inl ⟨rfl, rfl⟩))
  · rcases shortV_ways b with hsb | hsb
    · exact rMul_way a b w ha hb _ _ _ _ hsa hsb (.inl rfl)
    · exact rMul_way a b w ha hb _ _ _ _ hsa hsb (.inl rfl)

end Go.Proofs.YtldohkfomdcpoaaGreatDoor
