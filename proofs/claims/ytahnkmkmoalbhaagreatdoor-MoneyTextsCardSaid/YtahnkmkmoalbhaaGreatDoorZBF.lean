/- The reference implementation of layer 1: Mul: the walk. -/
import Derived.Test.YtahnkmkmoalbhaaGreatDoorZBC
import Derived.Test.YtahnkmkmoalbhaaGreatDoorZBE
import Derived.Deep.RegionHeld3
import Derived.Laws.AppendOwnNone
namespace Go.Proofs.YtahnkmkmoalbhaaGreatDoor
open Go.RowKit

theorem NumAt.alloc {w : World} {b : Nat} {ng : Bool} {v : Value} (h : NumAt w b ng v) (o : Obj) : NumAt (w.alloc o) b ng v := by
  have hlt : b < w.heap.size := by
    rcases Nat.lt_or_ge b w.heap.size with h' | h'
    · exact h'
    · unfold NumAt at h; rw [Array.getElem?_eq_none h'] at h; simp at h
  exact h.below ((Below.refl w.heap.size w).alloc (Nat.le_refl _) o) hlt
theorem NumAt.lt {w : World} {b : Nat} {ng : Bool} {v : Value} (h : NumAt w b ng v) : b < w.heap.size := by
  rcases Nat.lt_or_ge b w.heap.size with h' | h'
  · exact h'
  · unfold NumAt at h; rw [Array.getElem?_eq_none h'] at h; simp at h

theorem gS_length2 (s : ByteArray) (hs : s.size ≤ 1000) : (gS s).length ≤ 120 := by
  unfold gS; rw [Num.grps_length]
  have := Num.sdig_length s.data.toList
  rw [size_toList] at this; omega
theorem prod_length {xs ys zs : List Int} (cz : Num.Can zs) (cx : Num.Norm xs) (cy : Num.Norm ys) (h : Num.gval zs = Num.gval xs * Num.gval ys) {k : Nat} (hk : xs.length + ys.length ≤ k) : zs.length ≤ k := by
  by_cases h0 : zs = []
  · rw [h0]; simp
  · have h1 := Num.gval_ge cz h0
    have h2 := Num.gval_lt cx
    have h3 := Num.gval_lt cy
    have h4 := Num.gval_nonneg cx
    have h6 : Num.gval xs * Num.gval ys < Num.B ^ (xs.length + ys.length) := by
      rw [Int.pow_add]
      have h7 := Int.mul_le_mul_of_nonneg_left (Int.le_of_lt h3) h4
      have h8 := Int.mul_lt_mul_of_pos_right h2 (Num.Bpow_pos ys.length)
      omega
    by_cases hl : zs.length ≤ k
    · exact hl
    · have := Num.Bpow_mono (show xs.length + ys.length ≤ zs.length - 1 by omega)
      omega

set_option maxRecDepth 100000 in
set_option maxHeartbeats 4000000 in
theorem rMul_way (a b : ByteArray) (w : World) (ha : a.size ≤ 1000) (hb : b.size ≤ 1000) (m p : Int) (is q : Bool) (hsa : shortV a = .tuple #[.int .i64 m, .bool is]) (hsb : shortV b = .tuple #[.int .i64 p, .bool q])
    (hway : is = false ∨ (is = true ∧ q = false) ∨ (is = true ∧ q = true ∧ ¬ m < 1000000000) ∨ (is = true ∧ q = true ∧ m < 1000000000 ∧ ¬ -1000000000 < m) ∨ (is = true ∧ q = true ∧ m < 1000000000 ∧ -1000000000 < m ∧ ¬ p < 1000000000) ∨ (is = true ∧ q = true ∧ m < 1000000000 ∧ -1000000000 < m ∧ p < 1000000000 ∧ ¬ -1000000000 < p)) :
    Calls Tryz.prog 131 #[.string a, .string b] w (StrPost w (vS a * vS b)) := by
  have HSA := Lib.hid hsa
  have HSB := Lib.hid hsb
  clear hsa hsb
  rcases hway with rfl | ⟨rfl, rfl⟩ | ⟨rfl, rfl, h1⟩ | ⟨rfl, rfl, h1, h2⟩ | ⟨rfl, rfl, h1, h2, h3⟩ | ⟨rfl, rfl, h1, h2, h3, h4⟩
  all_goals
    go_enter Tryz.func131, Tryz.ntmps131
    go_wp2_with fail
    refine (short_any a w (by omega)).mono ?_
    rintro e _ ⟨rfl, rfl⟩
    rw [HSA.out]
    go_wp2_with fail
    refine (short_any b w (by omega)).mono ?_
    rintro e _ ⟨rfl, rfl⟩
    rw [HSB.out]
    go_wp2_with fail
    refine (rRead_any a w ha).mono ?_
    rintro e w1 ⟨xa, cx, rfl, hrx, hB1⟩
    go_wp2_with fail
    refine (rRead_any b w1 hb).mono ?_
    rintro e w2 ⟨ya, cy, rfl, hry, hB2⟩
    have hrx2 := hrx.below hB2
    have hB : Below w.heap.size w w2 := hB1.trans (hB2.mono hB1.size)
    clear hB1 hB2 hrx
    have hla := gS_length2 a ha
    have hlb := gS_length2 b hb
    obtain ⟨na, hna⟩ : ∃ na, na = Num.sneg a.data.toList := ⟨_, rfl⟩
    obtain ⟨nb, hnb⟩ : ∃ nb, nb = Num.sneg b.data.toList := ⟨_, rfl⟩
    obtain ⟨zs, hzs⟩ : ∃ zs, zs = Num.groups (Num.gval (gS a) * Num.gval (gS b)) := ⟨_, rfl⟩
    have hzc : Num.Can zs := by rw [hzs]; exact Num.Can.groups _
    have hzg : Num.gval zs = Num.gval (gS a) * Num.gval (gS b) := by rw [hzs, Num.gval_groups (Int.mul_nonneg (Num.gval_nonneg (gS_can a).1) (Num.gval_nonneg (gS_can b).1))]
    have hzl : zs.length ≤ 1000 := prod_length hzc (gS_can a).1 (gS_can b).1 hzg (by omega)
    have hv : sg (na != nb) (Num.gval zs) = vS a * vS b := by
      rw [hzg, vS_sg a, vS_sg b, ← hna, ← hnb]; cases na <;> cases nb <;> simp [sg, Int.neg_mul, Int.mul_neg]
    rw [← hna, ← hnb]
    obtain ⟨W0, hW0⟩ : ∃ W0, W0 = (w2.alloc (.cells #[.bool na, .slice xa (gS a).length cx] 138)).alloc (.cells #[.bool nb, .slice ya (gS b).length cy] 138) := ⟨_, rfl⟩
    have hB0 : Below w2.heap.size w2 W0 := by rw [hW0]; exact ((Below.refl _ _).alloc (Nat.le_refl _) _).alloc (by simp) _
    have hNa : NumAt W0 w2.heap.size na (.slice xa (gS a).length cx) := by
      rw [hW0]; exact NumAt.alloc (show NumAt (w2.alloc _) w2.heap.size na _ from heap_alloc_new w2 _) _
    have hNb : NumAt W0 (w2.heap.size + 1) nb (.slice ya (gS b).length cy) := by
      rw [hW0]
      have := heap_alloc_new (w2.alloc (.cells #[.bool na, .slice xa (gS a).length cx] 138)) (.cells #[.bool nb, .slice ya (gS b).length cy] 138)
      simpa [NumAt] using this
    obtain ⟨a0, a1, _, _⟩ := hNa.cells
    obtain ⟨b0, b1, _, _⟩ := hNb.cells
    have HRX := Lib.hid (fun q => (hrx2.below hB0).drewN q)
    have HRY := Lib.hid (fun q => (hry.below hB0).drewN q)
    have HNa := Lib.hid hNa
    have HNb := Lib.hid hNb
    have HV := Lib.hid hv
    have HZG := Lib.hid hzg
    have HZL := Lib.hid hzl
    have HBB := Lib.hid (hB.trans (hB0.mono hB.size))
    clear hrx2 hry hNa hNb hv hzg hzs hna hnb hB hzl
    go_wp2_with fail
    rw [← hW0]
    clear hW0 hB0
    go_region_held3 (fun w' => w'.cell? ⟨w2.heap.size, 0, none⟩ = some (.bool na) ∧ w'.cell? ⟨w2.heap.size, 1, none⟩ = some (.slice xa (gS a).length cx) ∧ w'.cell? ⟨w2.heap.size + 1, 0, none⟩ = some (.bool nb) ∧ w'.cell? ⟨w2.heap.size + 1, 1, none⟩ = some (.slice ya (gS b).length cy))
      (go_keep)
      (first
        | (go_at_call 160; refine (rTimes_any _ xa ya cx cy _ _ (gS a) (gS b) rfl rfl (HRX.out _) (HRY.out _) (gS_can a).1 (gS_can b).1 (by omega) zs hzc HZG.out).mono ?_; rintro e W3 ⟨va, vc, rfl, hrd, hB3, _⟩; have HN3 := Lib.hid (NumAt.below (show NumAt (W0.drewN _) _ _ _ from HNa.out) hB3 HNa.out.lt); have HM3 := Lib.hid (NumAt.below (show NumAt (W0.drewN _) _ _ _ from HNb.out) hB3 HNb.out.lt); obtain ⟨k0, k1, _, _⟩ := HN3.out.cells; obtain ⟨l0, l1, _, _⟩ := HM3.out.cells; have HRD := Lib.hid hrd; have HB3 := Lib.hid ((below_drewN HBB.out _).trans (hB3.mono HBB.out.size)); clear hB3 hrd)
        | (go_at_call 115; refine (rWrite_any _ _ va vc _ zs rfl HRD.out hzc.1 HZL.out).mono ?_; rintro e W4 ⟨rfl, hB4⟩; obtain ⟨m0, m1, _, _⟩ := (HN3.out.below hB4 HN3.out.lt).cells; obtain ⟨n0, n1, _, _⟩ := (HM3.out.below hB4 HM3.out.lt).cells; have HB4 := Lib.hid (HB3.out.trans (hB4.mono HB3.out.size)); clear hB4))
    go_wp2_with fail
    go_ret
    exact ⟨by rw [← HV.out]; cases na <;> cases nb <;> rfl, HB4.out⟩


theorem prod_small {m p : Int} (h1 : m < 1000000000) (h2 : -1000000000 < m) (h3 : p < 1000000000) (h4 : -1000000000 < p) : -999999998000000001 ≤ m * p ∧ m * p ≤ 999999998000000001 := by
  have h := Int.natAbs_mul m p
  have h5 : m.natAbs * p.natAbs ≤ 999999999 * 999999999 := Nat.mul_le_mul (by omega) (by omega)
  omega

set_option maxRecDepth 100000 in
set_option maxHeartbeats 4000000 in
theorem rMul_short (a b : ByteArray) (w : World) (ha : a.size ≤ 1000) (hb : b.size ≤ 1000) (m p : Int) (hsa : shortV a = .tuple #[.int .i64 m, .bool true]) (hsb : shortV b = .tuple #[.int .i64 p, .bool true])
    (h1 : m < 1000000000) (h2 : -1000000000 < m) (h3 : p < 1000000000) (h4 : -1000000000 < p) :
    Calls Tryz.prog 131 #[.string a, .string b] w fun e w' => e = .returned (.string (cS (m * p))) ∧ w = w' := by
  have HSA := Lib.hid hsa
  have HSB := Lib.hid hsb
  obtain ⟨h5, h6⟩ := prod_small h1 h2 h3 h4
  clear hsa hsb
  go_enter Tryz.func131, Tryz.ntmps131
  go_wp2_with fail
  refine (short_any a w (by omega)).mono ?_
  rintro e _ ⟨rfl, rfl⟩
  rw [HSA.out]
  go_wp2_with fail
  refine (short_any b w (by omega)).mono ?_
  rintro e _ ⟨rfl, rfl⟩
  rw [HSB.out]
  go_wp2_with fail
  refine (rOf_any (m * p) w (by omega) (by omega)).mono ?_
  rintro e _ ⟨rfl, rfl⟩
  go_wp2_with fail
  go_ret
  exact ⟨rfl, rfl⟩

theorem shortV_ways (a : ByteArray) : shortV a = .tuple #[.int .i64 (vS a), .bool true] ∨ shortV a = .tuple #[.int .i64 0, .bool false] := by
  unfold shortV; split
  · exact .inl rfl
  · exact .inr rfl

theorem rMul_any (a b : ByteArray) (w : World) (ha : a.size ≤ 1000) (hb : b.size ≤ 1000) :
    Calls Tryz.prog 131 #[.string a, .string b] w (StrPost w (vS a * vS b)) := by
  rcases shortV_ways a with hsa | hsa
  · rcases shortV_ways b with hsb | hsb
    · by_cases h : vS a < 1000000000 ∧ -1000000000 < vS a ∧ vS b < 1000000000 ∧ -1000000000 < vS b
      · exact (rMul_short a b w ha hb _ _ hsa hsb h.1 h.2.1 h.2.2.1 h.2.2.2).mono fun e w' hh => ⟨hh.1, hh.2 ▸ Below.refl _ _⟩
      · exact rMul_way a b w ha hb _ _ _ _ hsa hsb (by simp only [true_and, Bool.true_eq_false, false_or]; omega)
    · exact rMul_way a b w ha hb _ _ _ _ hsa hsb (.inr (.inl ⟨rfl, rfl⟩))
  · rcases shortV_ways b with hsb | hsb
    · exact rMul_way a b w ha hb _ _ _ _ hsa hsb (.inl rfl)
    · exact rMul_way a b w ha hb _ _ _ _ hsa hsb (.inl rfl)

end Go.Proofs.YtahnkmkmoalbhaaGreatDoor

/- The reference implementation of layer 1: the sum of two numbers: the walk. -/
namespace Go.Proofs.YtahnkmkmoalbhaaGreatDoor
open Go.RowKit

/-- the result of a function that makes a number: a struct with this value -/
def NewNum (w : World) (z : Int) (e : Ending) (w' : World) : Prop :=
  ∃ ng xa cap zs, e = .returned (.agg #[.bool ng, .slice xa (List.length zs) cap]) ∧ Num.Can zs ∧ sg ng (Num.gval zs) = z ∧ Rd w' xa cap zs ∧ zs.length ≤ 400 ∧ Below w.heap.size w w' ∧ ∀ b o, xa = some ⟨b, o, none⟩ → w.heap.size ≤ b

theorem sum_length {xs ys zs : List Int} (cz : Num.Can zs) (cx : Num.Norm xs) (cy : Num.Norm ys) (h : Num.gval zs = Num.gval xs + Num.gval ys) {k : Nat} (hk : xs.length ≤ k) (hk2 : ys.length ≤ k) : zs.length ≤ k + 1 := by
  by_cases h0 : zs = []
  · rw [h0]; simp
  · have h1 := Num.gval_ge cz h0
    have h2 := Num.gval_lt cx
    have h3 := Num.gval_lt cy
    have h4 := Num.Bpow_mono hk
    have h5 := Num.Bpow_mono hk2
    by_cases hl : zs.length ≤ k + 1
    · exact hl
    · have h6 := Num.Bpow_mono (show k + 1 ≤ zs.length - 1 by omega)
      rw [Int.pow_succ] at h6
      have h7 := Num.Bpow_pos k
      unfold Num.B at *
      omega
theorem diff_length {xs zs : List Int} (cz : Num.Can zs) (cx : Num.Norm xs) (h : Num.gval zs ≤ Num.gval xs) : zs.length ≤ xs.length := by
  by_cases h0 : zs = []
  · rw [h0]; simp
  · have h1 := Num.gval_ge cz h0
    have h2 := Num.gval_lt cx
    by_cases hl : zs.length ≤ xs.length
    · exact hl
    · have h6 := Num.Bpow_mono (show xs.length ≤ zs.length - 1 by omega)
      omega

/-- the three structs of a sum -/
structure Three (W : World) (B : Nat) (na nb : Bool) (u v : Value) : Prop where
  a : NumAt W B na u
  b : NumAt W (B + 1) nb v
  r : NumAt W (B + 2) false (.slice none 0 0)
theorem Three.below {W W' : World} {B : Nat} {na nb : Bool} {u v : Value} (h : Three W B na nb u v) (hb : Below W.heap.size W W') : Three W' B na nb u v :=
  ⟨h.a.below hb h.a.lt, h.b.below hb h.b.lt, h.r.below hb h.r.lt⟩
theorem Three.drewN {W : World} {B : Nat} {na nb : Bool} {u v : Value} (h : Three W B na nb u v) (q : Nat) : Three (W.drewN q) B na nb u v := ⟨h.a, h.b, h.r⟩
theorem NumAt.made (w : World) (ng : Bool) (v : Value) : NumAt (w.alloc (.cells #[.bool ng, v] 138)) w.heap.size ng v := heap_alloc_new w _
theorem Three.made (w : World) (na nb : Bool) (u v : Value) : Three (((w.alloc (.cells #[.bool na, u] 138)).alloc (.cells #[.bool nb, v] 138)).alloc (.cells #[.bool false, .slice none 0 0] 138)) w.heap.size na nb u v := by
  have h1 := NumAt.made w na u
  have h2 := NumAt.made (w.alloc (.cells #[.bool na, u] 138)) nb v
  have h3 := NumAt.made ((w.alloc (.cells #[.bool na, u] 138)).alloc (.cells #[.bool nb, v] 138)) false (.slice none 0 0)
  refine ⟨(h1.alloc _).alloc _, ?_, ?_⟩
  · have := h2.alloc (.cells #[.bool false, .slice none 0 0] 138)
    simpa using this
  · simpa using h3

/-- the sum's struct is written -/
theorem Three.done {w W : World} {na nb ng : Bool} {u v : Value} {xa : Option Addr} {cap : Nat} {zs : List Int} {z : Int} (h : Three W w.heap.size na nb u v) (hB : Below w.heap.size w W) (hz : Num.Can zs) (hv : sg ng (Num.gval zs) = z) (hl : zs.length ≤ 400) (hfr : ∀ b o, xa = some ⟨b, o, none⟩ → w.heap.size ≤ b)
    (hrd : Rd ((W.setCell ⟨w.heap.size + 2, 0, none⟩ (.bool ng)).setCell ⟨w.heap.size + 2, 1, none⟩ (.slice xa zs.length cap)) xa cap zs) :
    NumAt ((W.setCell ⟨w.heap.size + 2, 0, none⟩ (.bool ng)).setCell ⟨w.heap.size + 2, 1, none⟩ (.slice xa zs.length cap)) (w.heap.size + 2) ng (.slice xa zs.length cap) ∧
    NewNum w z (.returned (.agg #[.bool ng, .slice xa zs.length cap])) ((W.setCell ⟨w.heap.size + 2, 0, none⟩ (.bool ng)).setCell ⟨w.heap.size + 2, 1, none⟩ (.slice xa zs.length cap)) :=
  ⟨(h.r.set0 ng).set _, ng, xa, cap, zs, rfl, hz, hv, hrd, hl, (hB.setCell (p := ⟨w.heap.size + 2, 0, none⟩) (by simp) _).setCell (p := ⟨w.heap.size + 2, 1, none⟩) (by simp) _, hfr⟩

set_option maxRecDepth 100000 in
set_option maxHeartbeats 4000000 in
theorem rAdd_same (na : Bool) (w : World) (xa ya : Option Addr) (cap capy n m : Nat) (xs ys : List Int) (hn : xs.length = n) (hm : ys.length = m) (hx : Rd w xa cap xs) (hy : Rd w ya capy ys) (cx : Num.Can xs) (cy : Num.Can ys) (hlim : n ≤ 300 ∧ m ≤ 300) :
    Calls Tryz.prog 116 #[.agg #[.bool na, .slice xa n cap], .agg #[.bool na, .slice ya m capy]] w (NewNum w (sg na (Num.gval xs) + sg na (Num.gval ys))) := by
  have g0 := Num.gval_nonneg cx.1
  have g1 := Num.gval_nonneg cy.1
  obtain ⟨zs, hzs⟩ : ∃ zs, zs = Num.groups (Num.gval xs + Num.gval ys) := ⟨_, rfl⟩
  have hzc : Num.Can zs := by rw [hzs]; exact Num.Can.groups _
  have hzg : Num.gval zs = Num.gval xs + Num.gval ys := by rw [hzs, Num.gval_groups (by omega)]
  have hzl : zs.length ≤ 400 := by have := sum_length hzc cx.1 cy.1 hzg (k := 300) (by omega) (by omega); omega
  have hv : sg na (Num.gval zs) = sg na (Num.gval xs) + sg na (Num.gval ys) := by rw [hzg]; cases na <;> simp [sg]; omega
  obtain ⟨W0, hW0⟩ : ∃ W0, W0 = ((w.alloc (.cells #[.bool na, .slice xa n cap] 138)).alloc (.cells #[.bool na, .slice ya m capy] 138)).alloc (.cells #[.bool false, .slice none 0 0] 138) := ⟨_, rfl⟩
  have hB0 : Below w.heap.size w W0 := by rw [hW0]; exact (((Below.refl _ _).alloc (Nat.le_refl _) _).alloc (by simp) _).alloc (by simp; omega) _
  have h3 : Three W0 w.heap.size na na (.slice xa n cap) (.slice ya m capy) := by rw [hW0]; exact Three.made _ _ _ _ _
  have HRX := Lib.hid (fun q => (hx.below hB0).drewN q)
  have HRY := Lib.hid (fun q => (hy.below hB0).drewN q)
  have HT := Lib.hid h3
  have HB0 := Lib.hid hB0
  have HN := Lib.hid hn
  have HM := Lib.hid hm
  have HZG := Lib.hid hzg
  have HZL := Lib.hid hzl
  have HV := Lib.hid hv
  clear hn hm hzs hzg hzl hv hx hy h3 hB0
  have hbb : (na == na) = true := by simp
  go_enter Tryz.func116, Tryz.ntmps116
  go_wp2_with fail
  rw [← hW0]
  clear hW0
  obtain ⟨a0, a1, _, _⟩ := HT.out.a.cells
  obtain ⟨b0, b1, _, _⟩ := HT.out.b.cells
  have hne1 : w.heap.size + 1 + 1 ≠ w.heap.size := by omega
  have hne2 : w.heap.size ≠ w.heap.size + 1 + 1 := by omega
  go_region_held3 (fun w' => w'.cell? ⟨w.heap.size, 0, none⟩ = some (.bool na) ∧ w'.cell? ⟨w.heap.size, 1, none⟩ = some (.slice xa n cap) ∧ w'.cell? ⟨w.heap.size + 1, 0, none⟩ = some (.bool na) ∧ w'.cell? ⟨w.heap.size + 1, 1, none⟩ = some (.slice ya m capy))
    (go_keep)
    (first | (go_at_call 146; refine (rPlus_any _ xa ya cap capy n m xs ys HN.out HM.out (HRX.out _) (HRY.out _) cx cy (by omega) zs hzc HZG.out).mono ?_; rintro e W3 ⟨va, vc, rfl, hrd, hB3, hfr, _⟩; have HT3 := Lib.hid ((HT.out.drewN _).below hB3); obtain ⟨k0, k1, _, _⟩ := HT3.out.a.cells; obtain ⟨l0, l1, _, _⟩ := HT3.out.b.cells; obtain ⟨r0, r1, f0, f1⟩ := HT3.out.r.cells; have HB3 := Lib.hid ((below_drewN HB0.out _).trans (hB3.mono HB0.out.size)); have HD := Lib.hid (HT3.out.done HB3.out hzc HV.out HZL.out (fun b o e => Nat.le_trans HB0.out.size (hfr b o e)) ((hrd.setOther (a := ⟨w.heap.size + 2, 0, none⟩) (fun b o e => by have := hfr b o e; have := HT.out.r.lt; exact Nat.ne_of_gt (Nat.lt_of_lt_of_le HT.out.r.lt (hfr b o e))) (.bool na)).setOther (a := ⟨w.heap.size + 2, 1, none⟩) (fun b o e => Nat.ne_of_gt (Nat.lt_of_lt_of_le HT.out.r.lt (hfr b o e))) (.slice va zs.length vc))); clear hB3 hrd hfr))
  go_wp2_with fail
  obtain ⟨k0, k1, _, _⟩ := HD.out.1.cells
  exact bodyPost_ret (v := .agg #[.bool na, .slice va zs.length vc]) (by simp [results, Tryz.results116, go_sem, k0, k1]) rfl HD.out.2

set_option maxRecDepth 100000 in
set_option maxHeartbeats 4000000 in
theorem rAdd_ge (na nb : Bool) (w : World) (xa ya : Option Addr) (cap capy n m : Nat) (xs ys : List Int) (hn : xs.length = n) (hm : ys.length = m) (hx : Rd w xa cap xs) (hy : Rd w ya capy ys) (cx : Num.Can xs) (cy : Num.Can ys) (hlim : n ≤ 300 ∧ m ≤ 300) (hne : na ≠ nb) (hlt : ¬ Num.gval xs < Num.gval ys) :
    Calls Tryz.prog 116 #[.agg #[.bool na, .slice xa n cap], .agg #[.bool nb, .slice ya m capy]] w (NewNum w (sg na (Num.gval xs) + sg nb (Num.gval ys))) := by
  have g0 := Num.gval_nonneg cx.1
  have g1 := Num.gval_nonneg cy.1
  obtain ⟨zs, hzs⟩ : ∃ zs, zs = Num.groups (Num.gval xs - Num.gval ys) := ⟨_, rfl⟩
  have hzc : Num.Can zs := by rw [hzs]; exact Num.Can.groups _
  have hzg : Num.gval zs = Num.gval xs - Num.gval ys := by rw [hzs, Num.gval_groups (by omega)]
  have hzl : zs.length ≤ 400 := by have := diff_length hzc cx.1 (by omega); omega
  have hv : sg na (Num.gval zs) = sg na (Num.gval xs) + sg nb (Num.gval ys) := by rw [hzg]; cases na <;> cases nb <;> simp [sg] at hne ⊢ <;> omega
  obtain ⟨W0, hW0⟩ : ∃ W0, W0 = ((w.alloc (.cells #[.bool na, .slice xa n cap] 138)).alloc (.cells #[.bool nb, .slice ya m capy] 138)).alloc (.cells #[.bool false, .slice none 0 0] 138) := ⟨_, rfl⟩
  have hB0 : Below w.heap.size w W0 := by rw [hW0]; exact (((Below.refl _ _).alloc (Nat.le_refl _) _).alloc (by simp) _).alloc (by simp; omega) _
  have h3 : Three W0 w.heap.size na nb (.slice xa n cap) (.slice ya m capy) := by rw [hW0]; exact Three.made _ _ _ _ _
  have HRX := Lib.hid (fun q => (hx.below hB0).drewN q)
  have HRY := Lib.hid (fun q => (hy.below hB0).drewN q)
  have HT := Lib.hid h3
  have HB0 := Lib.hid hB0
  have HN := Lib.hid hn
  have HM := Lib.hid hm
  have HZG := Lib.hid hzg
  have HZL := Lib.hid hzl
  have HV := Lib.hid hv
  clear hn hm hzs hzg hzl hv hx hy h3 hB0
  have hbb : (na == nb) = false := by simpa using hne
  clear hne
  go_enter Tryz.func116, Tryz.ntmps116
  go_wp2_with fail
  rw [← hW0]
  clear hW0
  obtain ⟨a0, a1, _, _⟩ := HT.out.a.cells
  obtain ⟨b0, b1, _, _⟩ := HT.out.b.cells
  obtain ⟨c, hc⟩ : ∃ c, c = cmp3 (Num.gval xs) (Num.gval ys) := ⟨_, rfl⟩
  have hcc : ¬ c < 0 := by rw [hc]; unfold cmp3; rw [if_neg (by omega)]; split <;> omega
  have HC := Lib.hid hc
  clear hc
  refine (rOrder_any W0 xa ya cap capy n m xs ys HN.out HM.out (HRX.out 0) (HRY.out 0) cx cy).mono ?_
  rintro e _ ⟨rfl, k, rfl⟩
  rw [← HC.out]
  go_wp2_with fail
  have hne1 : w.heap.size + 1 + 1 ≠ w.heap.size := by omega
  have hne2 : w.heap.size ≠ w.heap.size + 1 + 1 := by omega
  go_region_held3 (fun w' => w'.cell? ⟨w.heap.size, 0, none⟩ = some (.bool na) ∧ w'.cell? ⟨w.heap.size, 1, none⟩ = some (.slice xa n cap) ∧ w'.cell? ⟨w.heap.size + 1, 0, none⟩ = some (.bool nb) ∧ w'.cell? ⟨w.heap.size + 1, 1, none⟩ = some (.slice ya m capy))
    (go_keep)
    (first | (go_at_call 148; refine (rMinus_any _ xa ya cap capy n m xs ys HN.out HM.out (HRX.out _) (HRY.out _) cx cy (by omega) zs hzc HZG.out).mono ?_; rintro e W3 ⟨va, vc, rfl, hrd, hB3, hfr, _⟩; have HT3 := Lib.hid ((HT.out.drewN _).below hB3); obtain ⟨k0, k1, _, _⟩ := HT3.out.a.cells; obtain ⟨l0, l1, _, _⟩ := HT3.out.b.cells; obtain ⟨r0, r1, f0, f1⟩ := HT3.out.r.cells; have HB3 := Lib.hid ((below_drewN HB0.out _).trans (hB3.mono HB0.out.size)); have HD := Lib.hid (HT3.out.done HB3.out hzc HV.out HZL.out (fun b o e => Nat.le_trans HB0.out.size (hfr b o e)) ((hrd.setOther (a := ⟨w.heap.size + 2, 0, none⟩) (fun b o e => by have := hfr b o e; have := HT.out.r.lt; exact Nat.ne_of_gt (Nat.lt_of_lt_of_le HT.out.r.lt (hfr b o e))) (.bool na)).setOther (a := ⟨w.heap.size + 2, 1, none⟩) (fun b o e => Nat.ne_of_gt (Nat.lt_of_lt_of_le HT.out.r.lt (hfr b o e))) (.slice va zs.length vc))); clear hB3 hrd hfr))
  go_wp2_with fail
  obtain ⟨k0, k1, _, _⟩ := HD.out.1.cells
  exact bodyPost_ret (v := .agg #[.bool na, .slice va zs.length vc]) (by simp [results, Tryz.results116, go_sem, k0, k1]) rfl HD.out.2

set_option maxRecDepth 100000 in
set_option maxHeartbeats 4000000 in
theorem rAdd_lt (na nb : Bool) (w : World) (xa ya : Option Addr) (cap capy n m : Nat) (xs ys : List Int) (hn : xs.length = n) (hm : ys.length = m) (hx : Rd w xa cap xs) (hy : Rd w ya capy ys) (cx : Num.Can xs) (cy : Num.Can ys) (hlim : n ≤ 300 ∧ m ≤ 300) (hne : na ≠ nb) (hlt : Num.gval xs < Num.gval ys) :
    Calls Tryz.prog 116 #[.agg #[.bool na, .slice xa n cap], .agg #[.bool nb, .slice ya m capy]] w (NewNum w (sg na (Num.gval xs) + sg nb (Num.gval ys))) := by
  have g0 := Num.gval_nonneg cx.1
  have g1 := Num.gval_nonneg cy.1
  obtain ⟨zs, hzs⟩ : ∃ zs, zs = Num.groups (Num.gval ys - Num.gval xs) := ⟨_, rfl⟩
  have hzc : Num.Can zs := by rw [hzs]; exact Num.Can.groups _
  have hzg : Num.gval zs = Num.gval ys - Num.gval xs := by rw [hzs, Num.gval_groups (by omega)]
  have hzl : zs.length ≤ 400 := by have := diff_length hzc cy.1 (by omega); omega
  have hv : sg nb (Num.gval zs) = sg na (Num.gval xs) + sg nb (Num.gval ys) := by rw [hzg]; cases na <;> cases nb <;> simp [sg] at hne ⊢ <;> omega
  obtain ⟨W0, hW0⟩ : ∃ W0, W0 = ((w.alloc (.cells #[.bool na, .slice xa n cap] 138)).alloc (.cells #[.bool nb, .slice ya m capy] 138)).alloc (.cells #[.bool false, .slice none 0 0] 138) := ⟨_, rfl⟩
  have hB0 : Below w.heap.size w W0 := by rw [hW0]; exact (((Below.refl _ _).alloc (Nat.le_refl _) _).alloc (by simp) _).alloc (by simp; omega) _
  have h3 : Three W0 w.heap.size na nb (.slice xa n cap) (.slice ya m capy) := by rw [hW0]; exact Three.made _ _ _ _ _
  have HRX := Lib.hid (fun q => (hx.below hB0).drewN q)
  have HRY := Lib.hid (fun q => (hy.below hB0).drewN q)
  have HT := Lib.hid h3
  have HB0 := Lib.hid hB0
  have HN := Lib.hid hn
  have HM := Lib.hid hm
  have HZG := Lib.hid hzg
  have HZL := Lib.hid hzl
  have HV := Lib.hid hv
  clear hn hm hzs hzg hzl hv hx hy h3 hB0
  have hbb : (na == nb) = false := by simpa using hne
  clear hne
  go_enter Tryz.func116, Tryz.ntmps116
  go_wp2_with fail
  rw [← hW0]
  clear hW0
  obtain ⟨a0, a1, _, _⟩ := HT.out.a.cells
  obtain ⟨b0, b1, _, _⟩ := HT.out.b.cells
  obtain ⟨c, hc⟩ : ∃ c, c = cmp3 (Num.gval xs) (Num.gval ys) := ⟨_, rfl⟩
  have hcc : c < 0 := by rw [hc]; unfold cmp3; rw [if_pos hlt]; decide
  have HC := Lib.hid hc
  clear hc
  refine (rOrder_any W0 xa ya cap capy n m xs ys HN.out HM.out (HRX.out 0) (HRY.out 0) cx cy).mono ?_
  rintro e _ ⟨rfl, k, rfl⟩
  rw [← HC.out]
  go_wp2_with fail
  have hne1 : w.heap.size + 1 + 1 ≠ w.heap.size := by omega
  have hne2 : w.heap.size ≠ w.heap.size + 1 + 1 := by omega
  go_region_held3 (fun w' => w'.cell? ⟨w.heap.size, 0, none⟩ = some (.bool na) ∧ w'.cell? ⟨w.heap.size, 1, none⟩ = some (.slice xa n cap) ∧ w'.cell? ⟨w.heap.size + 1, 0, none⟩ = some (.bool nb) ∧ w'.cell? ⟨w.heap.size + 1, 1, none⟩ = some (.slice ya m capy))
    (go_keep)
    (first | (go_at_call 148; refine (rMinus_any _ ya xa capy cap m n ys xs HM.out HN.out (HRY.out _) (HRX.out _) cy cx (by omega) zs hzc HZG.out).mono ?_; rintro e W3 ⟨va, vc, rfl, hrd, hB3, hfr, _⟩; have HT3 := Lib.hid ((HT.out.drewN _).below hB3); obtain ⟨k0, k1, _, _⟩ := HT3.out.a.cells; obtain ⟨l0, l1, _, _⟩ := HT3.out.b.cells; obtain ⟨r0, r1, f0, f1⟩ := HT3.out.r.cells; have HB3 := Lib.hid ((below_drewN HB0.out _).trans (hB3.mono HB0.out.size)); have HD := Lib.hid (HT3.out.done HB3.out hzc HV.out HZL.out (fun b o e => Nat.le_trans HB0.out.size (hfr b o e)) ((hrd.setOther (a := ⟨w.heap.size + 2, 0, none⟩) (fun b o e => by have := hfr b o e; have := HT.out.r.lt; exact Nat.ne_of_gt (Nat.lt_of_lt_of_le HT.out.r.lt (hfr b o e))) (.bool nb)).setOther (a := ⟨w.heap.size + 2, 1, none⟩) (fun b o e => Nat.ne_of_gt (Nat.lt_of_lt_of_le HT.out.r.lt (hfr b o e))) (.slice va zs.length vc))); clear hB3 hrd hfr))
  go_wp2_with fail
  obtain ⟨k0, k1, _, _⟩ := HD.out.1.cells
  exact bodyPost_ret (v := .agg #[.bool nb, .slice va zs.length vc]) (by simp [results, Tryz.results116, go_sem, k0, k1]) rfl HD.out.2

/-- the sum of two numbers -/
theorem rAdd_num (na nb : Bool) (w : World) (xa ya : Option Addr) (cap capy n m : Nat) (xs ys : List Int) (hn : xs.length = n) (hm : ys.length = m) (hx : Rd w xa cap xs) (hy : Rd w ya capy ys) (cx : Num.Can xs) (cy : Num.Can ys) (hlim : n ≤ 300 ∧ m ≤ 300) :
    Calls Tryz.prog 116 #[.agg #[.bool na, .slice xa n cap], .agg #[.bool nb, .slice ya m capy]] w (NewNum w (sg na (Num.gval xs) + sg nb (Num.gval ys))) := by
  by_cases h : na = nb
  · subst h
    exact rAdd_same na w xa ya cap capy n m xs ys hn hm hx hy cx cy hlim
  · by_cases hlt : Num.gval xs < Num.gval ys
    · exact rAdd_lt na nb w xa ya cap capy n m xs ys hn hm hx hy cx cy hlim h hlt
    · exact rAdd_ge na nb w xa ya cap capy n m xs ys hn hm hx hy cx cy hlim h hlt

end Go.Proofs.YtahnkmkmoalbhaaGreatDoor

/- The reference implementation of layer 1: long division by guessing: plain mathematics, and appending to a new row. -/
namespace Go.Proofs.YtahnkmkmoalbhaaGreatDoor
open Go.RowKit

/-- the places of the quotient from z on are done, and R is what is left of what was brought down -/
structure QInv (xs ys : List Int) (n z : Nat) (Q : List Int) (R : Int) : Prop where
  qlen : Q.length = n
  qnorm : Num.Norm Q
  r0 : 0 ≤ R
  r1 : R < Num.gval ys
  eq : Num.gval (xs.drop z) = Num.gval (Q.drop z) * Num.gval ys + R

theorem QInv.start {xs ys : List Int} {n : Nat} (hn : xs.length = n) (hy : 0 < Num.gval ys) : QInv xs ys n n (List.replicate n 0) 0 :=
  ⟨by simp, Num.Norm.zeros _, by omega, hy, by rw [List.drop_of_length_le (by omega), List.drop_of_length_le (by simp)]; simp [Num.gval]⟩

theorem QInv.step {xs ys : List Int} {n i : Nat} {Q : List Int} {R R' q : Int} (h : QInv xs ys n (i + 1) Q R) (hi : i < n) (hn : xs.length = n) (q0 : 0 ≤ q) (q1 : q < 1000000000) (hR : R' = xs.getD i 0 + 1000000000 * R)
    (h2 : q * Num.gval ys ≤ R') (h3 : R' < (q + 1) * Num.gval ys) : QInv xs ys n i (Q.set i q) (R' - q * Num.gval ys) := by
  have hql := h.qlen
  refine ⟨by simp [hql], ?_, by omega, by rw [Int.add_mul] at h3; omega, ?_⟩
  · intro z hz
    rcases List.mem_or_eq_of_mem_set hz with hz | rfl
    · exact h.qnorm z hz
    · exact ⟨q0, q1⟩
  · have e1 : xs.drop i = xs.getD i 0 :: xs.drop (i + 1) := by
      rw [List.drop_eq_getElem_cons (by omega)]; simp [List.getD, show i < xs.length by omega]
    have e2 : (Q.set i q).drop i = q :: Q.drop (i + 1) := by
      rw [List.drop_eq_getElem_cons (by simp; omega)]
      simp [List.drop_set]
    rw [e1, e2]
    simp only [Num.gval]
    have := h.eq
    rw [this, hR, Int.add_mul, Int.mul_add, Int.mul_assoc]
    unfold Num.B
    omega

/-- the group is between lo and hi -/
structure SInv (Y R : Int) (lo hi : Int) : Prop where
  lo0 : 0 ≤ lo
  le : lo ≤ hi
  hi1 : hi ≤ 999999999
  low : lo * Y ≤ R
  high : R < (hi + 1) * Y
theorem SInv.start {Y R : Int} (h0 : 0 ≤ R) (h : R < 1000000000 * Y) : SInv Y R 0 999999999 := ⟨by omega, by omega, by omega, by omega, by omega⟩
theorem SInv.up {Y R lo hi mid : Int} (h : SInv Y R lo hi) (h1 : lo < mid) (h2 : mid ≤ hi) (hm : Y * mid ≤ R) : SInv Y R mid hi := ⟨by have := h.lo0; omega, h2, h.hi1, by rw [Int.mul_comm]; exact hm, h.high⟩
theorem SInv.down {Y R lo hi mid : Int} (h : SInv Y R lo hi) (h1 : lo < mid) (h2 : mid ≤ hi) (hm : ¬ Y * mid ≤ R) : SInv Y R lo (mid - 1) := ⟨h.lo0, by omega, by have := h.hi1; omega, h.low, by rw [Int.sub_add_cancel, Int.mul_comm]; omega⟩

theorem Own.one (w : World) (x : Int) : Own (w.alloc (.cells #[.int .i64 x] 3)) w.heap.size (.slice (some ⟨w.heap.size, 0, none⟩) 1 1) [x] :=
  ⟨rfl, .inr ⟨w.heap.size, 1, #[.int .i64 x], rfl, Nat.le_refl _, heap_alloc_new w _, Nat.le_refl _, by unfold maxLen; omega, rfl, rfl⟩⟩

theorem Own.addMany {w : World} {base : Nat} {v : Value} {l ms : List Int} (h : Own w base v l) (xa : Option Addr) (cap n : Nat) (hn : ms.length = n) (hr : Rd w xa cap ms) (h0 : xa = none → cap = 0) (ty : TypeId) (hs : l.length + n ≤ 10000000) (hb : base ≤ w.heap.size) :
    ∃ v' w', (Builtin.append_ #[85, 85] ty #[v, .slice xa n cap]).run Tryz.prog w = .ok v' w' ∧ Own w' base v' (l ++ ms) ∧ Below base w w' := by
  obtain ⟨i0, hi, hz0, hz1, hz2⟩ := info_parts info_int
  cases xa with
  | none =>
    obtain rfl : cap = 0 := h0 rfl
    have hm0 : ms = [] := by
      cases ms with
      | nil => rfl
      | cons x ms => obtain ⟨b, o, e, _⟩ := hr.sl (by simp); cases e
    subst hm0
    obtain rfl : n = 0 := by simpa using hn.symm
    exact ⟨v, w, run_append_owned_none (P := Tryz.prog) (w := w) base 85 ty 3 i0 1 Tryz.underlying85 hi v _ _ h, by simpa using h, Below.refl _ _⟩
  | some a =>
    obtain ⟨v', w', h1, h2, h3, _⟩ := run_append_own (P := Tryz.prog) w base 85 ty 3 i0 (.int .i64 0) 1 8 Tryz.underlying85 hi hz0 hz1 hz2 rfl (by decide) v l.length _ h a n cap (ms.map (Value.int .i64)) (by simp [hn])
      (fun j u hj => by
        rw [List.getElem?_map] at hj
        obtain ⟨x, hx1, rfl⟩ := Option.map_eq_some_iff.1 hj
        have hlt := (List.getElem?_eq_some_iff.1 hx1).1
        obtain ⟨b, o, e, hsr⟩ := hr.sl (by omega)
        obtain rfl := Option.some.inj e
        have := hsr.cell j hlt
        have e : (⟨b, o, none⟩ : Addr).add j = ⟨b, o + j, none⟩ := by unfold Addr.add; split <;> simp_all
        rw [e, this]
        simp [List.getD, hx1])
      (fun u hu => by obtain ⟨x, _, rfl⟩ := List.mem_map.1 hu; rfl) (by unfold maxLen; omega) (by omega) hb
    refine ⟨v', w', h1, ?_, (Below.refl base w).grown h3 hb (fun k hk => (World.ownsRow.lt h k hk).1)⟩
    unfold Own
    rw [List.length_append, List.map_append, hn]
    exact h2

end Go.Proofs.YtahnkmkmoalbhaaGreatDoor

/- The reference implementation of layer 1: divide: the walk. -/
namespace Go.Proofs.YtahnkmkmoalbhaaGreatDoor
open Go.RowKit

theorem wp_addMany {w : World} {ops : Array Oper} {rest : List Oper} {o : Oper} {a : Act} {Q : Exit → Act → World → Prop} (hgd : o.guard = none) (sl x : Operand)
    (ho : o.op = .call { callee := .builtin .append, args := #[sl, x], argTypes := #[85, 85] })
    (base : Nat) (v : Value) (l : List Int) (hs : a.eval sl = v) (h : Own w base v l) (xa : Option Addr) (cap : Nat) (ms : List Int) (hx : a.eval x = .slice xa ms.length cap) (hr : Rd w xa cap ms) (h0 : xa = none → cap = 0) (hl : l.length + ms.length ≤ 10000000) (hb : base ≤ w.heap.size)
    (hK : ∀ v' w', Own w' base v' (l ++ ms) → Below base w w' → wpList Tryz.prog ops Q rest (a.put o.dst v') w') : wpList Tryz.prog ops Q (o :: rest) a w := by
  refine wpList_plain hgd fun K hK' => ?_
  obtain ⟨v', w', hr, h2, h3⟩ := h.addMany xa cap ms.length rfl hr h0 o.type hl hb
  unfold Oper.wp execOp
  simp only [ho, resolve, invoke, builtin, Sem.run_bind, Sem.run_pure, Result.andThen_ok, List.map_toArray, List.map_cons, List.map_nil, hs, hx, hr]
  exact hK' _ _ (hK v' w' h2 h3)

/-- what divide leaves -/
def RDivided (w : World) (xs ys : List Int) (e : Ending) (w' : World) : Prop :=
  ∃ qs rs qa qcap ra rcap, e = .returned (.tuple #[.slice qa (List.length qs) qcap, .slice ra (List.length rs) rcap]) ∧ Num.Can qs ∧ Num.Can rs ∧ Num.gval xs = Num.gval qs * Num.gval ys + Num.gval rs ∧ Num.gval rs < Num.gval ys ∧
    Rd w' qa qcap qs ∧ Rd w' ra rcap rs ∧ qs.length ≤ 150 ∧ rs.length ≤ 151 ∧ Below w.heap.size w w'

/-- z places are still to be done -/
structure DRel (w : World) (xs ys : List Int) (n z : Nat) (Q rs : List Int) (ra : Option Addr) (rcap : Nat) (wr : World) : Prop where
  inv : QInv xs ys n z Q (Num.gval rs)
  can : Num.Can rs
  len : rs.length ≤ 151
  rd : Rd wr ra rcap rs
  nocap : ra = none → rcap = 0
  apart : ∀ b o, ra = some ⟨b, o, none⟩ → b ≠ w.heap.size
  row : Row wr w.heap.size Q
  below : Below w.heap.size w wr
  size : w.heap.size + 1 ≤ wr.heap.size

theorem less_length {rs ys : List Int} (cr : Num.Can rs) (cy : Num.Norm ys) (h : Num.gval rs < Num.gval ys) : rs.length ≤ ys.length := diff_length cr cy (by omega)

set_option maxRecDepth 100000 in
set_option maxHeartbeats 8000000 in
theorem rDivide_any (w : World) (xa ya : Option Addr) (cap capy n m : Nat) (xs ys : List Int) (hn : xs.length = n) (hm : ys.length = m) (hx : Rd w xa cap xs) (hy : Rd w ya capy ys) (cx : Num.Can xs) (cy : Num.Can ys) (hy0 : ys ≠ []) (hlim : n ≤ 150 ∧ m ≤ 150) :
    Calls Tryz.prog 188 #[.slice xa n cap, .slice ya m capy] w (RDivided w xs ys) := by
  have hmk := run_makeInts n (by omega)
  have hY := Num.gval_pos cy hy0
  have hst : DRel w xs ys n n (List.replicate n 0) [] (some ⟨w.heap.size + 1, 0, none⟩) 0 ((w.alloc (zeroRow n)).alloc (.cells #[] 3)) :=
    ⟨QInv.start hn hY, Num.Can.nil, by simp, Rd.nil _ _ _, fun e => (by cases e), fun b o e => (by injection e with e; injection e with e; omega), (Row.made w n).alloc _, ((Below.refl _ _).alloc (Nat.le_refl _) _).alloc (by simp) _, by simp⟩
  have HST := Lib.hid hst
  have HN := Lib.hid hn
  have HM := Lib.hid hm
  clear hst hn hm hy0
  go_enter Tryz.func188, Tryz.ntmps188
  go_wp2_with fail
  clear hmk
  go_loopw [7, 8] (fun rv iv wr => ∃ (z : Nat) (Q rs : List Int) (ra : Option Addr) (rcap : Nat), z ≤ n ∧ iv = .int .i64 ((z : Int) - 1) ∧ rv = .slice ra rs.length rcap ∧ DRel w xs ys n z Q rs ra rcap wr) (fun _ iv _ => (intOf iv + 1).toNat)
  case atStart => exact ⟨n, _, [], _, _, Nat.le_refl _, rfl, rfl, HST.out⟩
  case round =>
    clear HST
    obtain ⟨z, Q, rs, ra, rcap, hz, rfl, rfl, hr⟩ := hrel
    have HR := Lib.hid hr
    clear hr
    by_cases hz0 : z = 0
    · subst hz0
      have hsl := (HR.out.row.sl (cap := n) (by rw [HR.out.inv.qlen]; exact Nat.le_refl _) (by omega)).sr (by rw [HR.out.inv.qlen]; omega)
      have hrd : Rd wr (some ⟨w.heap.size, 0, none⟩) n Q := ⟨by rw [HR.out.inv.qlen]; omega, fun _ => ⟨_, 0, rfl, hsl⟩⟩
      have hpre := hrd.prefix (Num.trimmed_prefix Q)
      have heq : Num.gval xs = Num.gval (Num.trimmed Q) * Num.gval ys + Num.gval rs := by
        have := HR.out.inv.eq
        rw [Num.gval_trimmed]; simpa using this
      have hl1 : (Num.trimmed Q).length ≤ 150 := by have := (Num.trimmed_prefix Q).length_le; have := HR.out.inv.qlen; omega
      have hfin : RDivided w xs ys (.returned (.tuple #[.slice (some ⟨w.heap.size, 0, none⟩) (Num.trimmed Q).length n, .slice ra rs.length rcap])) wr :=
        ⟨_, rs, _, _, ra, rcap, rfl, Num.Can.trimmed HR.out.inv.qnorm, HR.out.can, heq, HR.out.inv.r1, hpre, HR.out.rd, hl1, HR.out.len, HR.out.below⟩
      have HF := Lib.hid hfin
      have HQL := Lib.hid HR.out.inv.qlen
      clear heq hfin hl1 hpre hsl
      go_wp2_with fail
      refine (rTrim_any wr _ _ n Q HQL.out hrd).mono ?_
      rintro e _ ⟨rfl, rfl⟩
      go_wp2_with fail
      go_ret2
      exact HF.out
    · obtain ⟨i, rfl⟩ : ∃ i, z = i + 1 := ⟨z - 1, by omega⟩
      rw [show ((i + 1 : Nat) : Int) - 1 = (i : Int) by omega]
      have hin : i < n := by omega
      obtain ⟨x, hxx⟩ : ∃ x, x = xs.getD i 0 := ⟨_, rfl⟩
      have hxb := cx.1.getD i
      rw [← hxx] at hxb
      unfold Num.B at hxb
      obtain ⟨b, o, rfl, hsr⟩ := hx.sl (by have := HN.out; omega)
      have hcell : wr.cell? ⟨b, o + i, none⟩ = some (.int .i64 x) := by
        rw [hxx]; exact (hsr.below HR.out.below hsr.lt).cell i (by have := HN.out; omega)
      have hcapb : n ≤ cap := by have := hsr.le; have := HN.out; omega
      have hcapm := hsr.max
      have HX := Lib.hid hxx
      have hO := Own.one wr x
      have hBa := (Below.refl wr.heap.size wr).alloc (Nat.le_refl _) (.cells #[.int .i64 x] 3)
      have hRa := HR.out.rd.below hBa
      obtain ⟨L, hL⟩ : ∃ L, L = ([x] ++ rs).length := ⟨_, rfl⟩
      have hL2 : ([x] ++ rs).length ≤ 1000000 := by simp; have := HR.out.len; omega
      have hlr := HR.out.len
      have HO := Lib.hid hO
      have HBa := Lib.hid hBa
      have HRa := Lib.hid hRa
      have HL := Lib.hid hL
      have HL2 := Lib.hid hL2
      obtain ⟨ts, hts⟩ : ∃ ts, ts = Num.trimmed ([x] ++ rs) := ⟨_, rfl⟩
      have hnorm : Num.Norm ([x] ++ rs) := (Num.Norm.one hxb.1 hxb.2).append HR.out.can.1
      have htc : Num.Can ts := by rw [hts]; exact Num.Can.trimmed hnorm
      have htg : Num.gval ts = x + 1000000000 * Num.gval rs := by rw [hts, Num.gval_trimmed]; simp [Num.gval]
      have htl : ts.length ≤ 152 := by
        have h1 := (Num.trimmed_prefix ([x] ++ rs)).length_le
        have h2 : ([x] ++ rs).length = rs.length + 1 := by simp
        rw [hts]; omega
      have hg0 := HR.out.inv.r0
      have hg1 := HR.out.inv.r1
      obtain ⟨R, hR⟩ : ∃ R, R = Num.gval ts := ⟨_, rfl⟩
      have hR0 : 0 ≤ R := by rw [hR, htg]; omega
      have hR1 : R < 1000000000 * Num.gval ys := by rw [hR, htg]; omega
      have HSI := Lib.hid (SInv.start hR0 hR1)
      have HTS := Lib.hid hts
      have HTG := Lib.hid htg
      have HRR := Lib.hid hR
      clear hxx hO hBa hRa hL hL2 hts hnorm htg hg0 hg1 hR hR0 hR1 hz0
      go_wp2_with (at_builtin; refine wp_addMany rfl _ _ rfl wr.heap.size _ _ rfl HO.out ra rcap rs rfl HRa.out HR.out.nocap (by simp; omega) HBa.out.size ?_; intro v1 W2 hO1 hB1; obtain ⟨va, vc, hv1, hrd1⟩ := hO1.rd HL2.out; rw [← HL.out] at hv1; subst hv1; have HAT := Lib.hid (Own.at hO1); have HNC := Lib.hid (Own.nilcap hO1); have HB2 := Lib.hid (HBa.out.trans hB1); have HRD1 := Lib.hid hrd1; clear hO1 hB1 hrd1)
      refine (rTrim_any W2 va vc L ([x] ++ rs) HL.out.symm HRD1.out).mono ?_
      rintro e _ ⟨rfl, rfl⟩
      rw [← HTS.out]
      have hts2 : ts <+: [x] ++ rs := by rw [HTS.out]; exact Num.trimmed_prefix _
      have hrt := HRD1.out.prefix hts2
      have hrow2 := HR.out.row.below HB2.out HR.out.row.lt
      have hB2w := HR.out.below.trans (HB2.out.mono HR.out.below.size)
      have HRT := Lib.hid hrt
      have HROW2 := Lib.hid hrow2
      have HB2W := Lib.hid hB2w
      have HY2 := Lib.hid (hy.below hB2w)
      have hst3 : SInv (Num.gval ys) R 0 999999999 ∧ Below W2.heap.size W2 W2 := ⟨HSI.out, Below.refl _ _⟩
      have HST3 := Lib.hid hst3
      clear hts2 hrt hrow2 hB2w hst3 hcell
      go_wp2_with fail
      go_loopw [9, 10] (fun lv hv wq => ∃ lo hi : Int, lv = .int .i64 lo ∧ hv = .int .i64 hi ∧ SInv (Num.gval ys) R lo hi ∧ Below W2.heap.size W2 wq) (fun lv hv _ => (intOf hv - intOf lv).toNat)
      case atStart => exact ⟨0, 999999999, rfl, rfl, HST3.out.1, HST3.out.2⟩
      case round =>
        clear HST3 HSI
        obtain ⟨lo, hi, rfl, rfl, hs, hBq⟩ := hrel
        have hlo := hs.lo0
        have hle := hs.le
        have hhi := hs.hi1
        have HS := Lib.hid hs
        have HBq := Lib.hid hBq
        clear hs hBq
        by_cases hlt : lo < hi
        · obtain ⟨mid, hmid⟩ : ∃ mid, (lo + hi + 1) / 2 = mid := ⟨_, rfl⟩
          have hmb : lo < mid ∧ mid ≤ hi := by omega
          obtain ⟨ps, hps⟩ : ∃ ps, ps = Num.groups (Num.gval ys * mid) := ⟨_, rfl⟩
          have hpc : Num.Can ps := by rw [hps]; exact Num.Can.groups _
          have hpg : Num.gval ps = Num.gval ys * Num.gval [mid] := by rw [hps, Num.gval_groups (Int.mul_nonneg (by omega) (by omega)), Num.gval_one]
          have hnm : Num.Norm [mid] := Num.Norm.one (by omega) (by unfold Num.B; omega)
          have HPG := Lib.hid hpg
          clear hps hpg
          go_wp2_with fail
          obtain ⟨W3, hW3⟩ : ∃ W3, W3 = wr.alloc (.cells #[.int .i64 mid] 3) := ⟨_, rfl⟩
          have hB3 : Below wr.heap.size wr W3 := by rw [hW3]; exact (Below.refl _ _).alloc (Nat.le_refl _) _
          have hrd3 : Rd W3 (some ⟨wr.heap.size, 0, none⟩) 1 [mid] := by rw [hW3]; exact ⟨by simp, fun _ => ⟨_, 0, rfl, (one_sl wr mid).sr (by simp)⟩⟩
          have hB23 := HBq.out.trans (hB3.mono HBq.out.size)
          rw [← hW3]
          clear hW3
          refine (rTimes_any W3 ya (some ⟨wr.heap.size, 0, none⟩) capy 1 m 1 ys [mid] HM.out rfl (HY2.out.below hB23) hrd3 cy.1 hnm (by omega) ps hpc HPG.out).mono ?_
          rintro e W4 ⟨pa, pc, rfl, hrdp, hB4, _⟩
          have hB24 := hB23.trans (hB4.mono hB23.size)
          have HRT4 := Lib.hid (HRT.out.below hB24)
          have HB24 := Lib.hid hB24
          clear hB3 hrd3 hB23 hB4 hB24
          go_wp2_with fail
          refine (rOrder_any W4 pa va pc vc _ _ ps ts rfl rfl hrdp HRT4.out hpc htc).mono ?_
          rintro e _ ⟨rfl, k, rfl⟩
          obtain ⟨c, hc⟩ : ∃ c, c = cmp3 (Num.gval ps) (Num.gval ts) := ⟨_, rfl⟩
          rw [← hc]
          have hpm : Num.gval ps = Num.gval ys * mid := by rw [HPG.out, Num.gval_one]
          rw [hpm, ← HRR.out] at hc
          by_cases hle2 : Num.gval ys * mid ≤ R
          · have hcc : c ≤ 0 := by rw [hc]; unfold cmp3; split <;> (try split) <;> omega
            have HUP := Lib.hid (HS.out.up hmb.1 hmb.2 hle2)
            clear hc hpm hle2
            go_wp2_with fail
            go_roundw
            case rel => exact ⟨mid, hi, rfl, rfl, HUP.out, below_drewN HB24.out k⟩
            case measure => simp [intOf]; omega
          · have hcc : ¬ c ≤ 0 := by rw [hc, cmp3_gt (by omega)]; decide
            have HDN := Lib.hid (HS.out.down hmb.1 hmb.2 hle2)
            clear hc hpm hle2
            go_wp2_with fail
            go_roundw
            case rel => exact ⟨lo, mid - 1, rfl, rfl, HDN.out, below_drewN HB24.out k⟩
            case measure => simp [intOf]; omega
        · obtain rfl : lo = hi := by omega
          have hrq := HROW2.out.below HBq.out HROW2.out.lt
          have hcq := hrq.cell (i := i) (by rw [HR.out.inv.qlen]; exact hin)
          have hfq := hrq.frozen i
          obtain ⟨W5, hW5⟩ : ∃ W5, W5 = wr.setCell ⟨w.heap.size, i, none⟩ (.int .i64 lo) := ⟨_, rfl⟩
          have hrow5 : Row W5 w.heap.size (Q.set i lo) := by rw [hW5]; exact hrq.set _ _
          have hfar : ∀ b o, va = some ⟨b, o, none⟩ → b ≠ w.heap.size := fun b o e => by have := HAT.out b o e; have := HR.out.size; omega
          have hrt5 : Rd W5 va vc ts := by rw [hW5]; exact (HRT.out.below HBq.out).setOther (a := ⟨w.heap.size, i, none⟩) hfar _
          have hB5 : Below w.heap.size w W5 := by rw [hW5]; exact (HB2W.out.trans (HBq.out.mono HB2W.out.size)).setCell (p := ⟨w.heap.size, i, none⟩) (Nat.le_refl _) _
          have hsz5 : w.heap.size + 1 ≤ W5.heap.size := by rw [hW5]; have h1 := HBq.out.size; have h2 := HB2.out.size; have h3 := HR.out.size; simp [World.setCell]; omega
          have hsz : W5.heap.size = wr.heap.size := by rw [hW5]; simp [World.setCell]
          have HSZ := Lib.hid hsz
          have hstep := HR.out.inv.step hin HN.out hlo (by omega) (R' := R) (by rw [HRR.out, HTG.out, HX.out]) HS.out.low HS.out.high
          have HROW5 := Lib.hid hrow5
          have HFAR := Lib.hid hfar
          have HRT5 := Lib.hid hrt5
          have HB5 := Lib.hid hB5
          have HSZ5 := Lib.hid hsz5
          have HSTEP := Lib.hid hstep
          have HY5 := Lib.hid (hy.below hB5)
          clear hrq hrow5 hfar hrt5 hB5 hsz5 hsz hstep hlt
          by_cases hl0 : 0 < lo
          · obtain ⟨ps, hps⟩ : ∃ ps, ps = Num.groups (Num.gval ys * lo) := ⟨_, rfl⟩
            have hpc : Num.Can ps := by rw [hps]; exact Num.Can.groups _
            have hpg : Num.gval ps = Num.gval ys * Num.gval [lo] := by rw [hps, Num.gval_groups (Int.mul_nonneg (by omega) (by omega)), Num.gval_one]
            have hnm : Num.Norm [lo] := Num.Norm.one (by omega) (by unfold Num.B; omega)
            obtain ⟨zs, hzs⟩ : ∃ zs, zs = Num.groups (R - lo * Num.gval ys) := ⟨_, rfl⟩
            have hzc : Num.Can zs := by rw [hzs]; exact Num.Can.groups _
            have hzR : Num.gval zs = R - lo * Num.gval ys := by rw [hzs, Num.gval_groups HSTEP.out.r0]
            have hzg : Num.gval zs = Num.gval ts - Num.gval ps := by rw [hzR, hpg, Num.gval_one, ← HRR.out, Int.mul_comm]
            have hzl : zs.length ≤ 151 := by have := less_length hzc cy.1 (by rw [hzR]; exact HSTEP.out.r1); have := HM.out; omega
            have HPG := Lib.hid hpg
            have HZG := Lib.hid hzg
            have HZL := Lib.hid hzl
            have HZR := Lib.hid hzR
            clear hps hpg hzs hzR hzg hzl
            go_wp2_with fail
            rw [← hW5]
            clear hW5 hcq hfq
            obtain ⟨W6, hW6⟩ : ∃ W6, W6 = W5.alloc (.cells #[.int .i64 lo] 3) := ⟨_, rfl⟩
            have hB6 : Below W5.heap.size W5 W6 := by rw [hW6]; exact (Below.refl _ _).alloc (Nat.le_refl _) _
            have hrd6 : Rd W6 (some ⟨wr.heap.size, 0, none⟩) 1 [lo] := by rw [hW6, ← HSZ.out]; exact ⟨by simp, fun _ => ⟨_, 0, rfl, (one_sl W5 lo).sr (by simp)⟩⟩
            rw [← hW6]
            clear hW6
            refine (rTimes_any W6 ya (some ⟨wr.heap.size, 0, none⟩) capy 1 m 1 ys [lo] HM.out rfl (HY5.out.below hB6) hrd6 cy.1 hnm (by omega) ps hpc HPG.out).mono ?_
            rintro e W7 ⟨pa, pc, rfl, hrdp, hB7, _⟩
            have hB57 := hB6.trans (hB7.mono hB6.size)
            have HB57 := Lib.hid hB57
            clear hB6 hrd6 hB7 hB57
            go_wp2_with fail
            refine (rMinus_any W7 va pa vc pc _ _ ts ps rfl rfl (HRT5.out.below HB57.out) hrdp htc hpc (by omega) zs hzc HZG.out).mono ?_
            rintro e W8 ⟨qa, qc, rfl, hrdz, hB8, hat8, hnc8⟩
            have hB58 := HB57.out.trans (hB8.mono HB57.out.size)
            have hfin : DRel w xs ys n i (Q.set i lo) zs qa qc W8 := by
              have h := HSTEP.out
              rw [← HZR.out] at h
              refine ⟨h, hzc, HZL.out, hrdz, hnc8, fun b o e => ?_, HROW5.out.below hB58 HROW5.out.lt, HB5.out.trans (hB58.mono HB5.out.size), by have := hB58.size; have := HSZ5.out; omega⟩
              have h1 := hat8 b o e
              have h2 := HB57.out.size
              have h3 := HSZ5.out
              omega
            have HF := Lib.hid hfin
            clear hfin hrdz hB8 hat8 hnc8 hB58 hrdp
            go_wp2_with fail
            go_roundw
            case rel => exact ⟨i, _, zs, qa, qc, by omega, rfl, rfl, HF.out⟩
            case measure => simp [intOf]
          · obtain rfl : lo = 0 := by omega
            have hfin : DRel w xs ys n i (Q.set i 0) ts va vc W5 := by
              have h := HSTEP.out
              rw [Int.zero_mul, Int.sub_zero, HRR.out] at h
              exact ⟨h, htc, by have := less_length htc cy.1 h.r1; have := HM.out; omega, HRT5.out, HNC.out, HFAR.out, HROW5.out, HB5.out, HSZ5.out⟩
            have HF := Lib.hid hfin
            clear hfin
            go_wp2_with fail
            rw [← hW5]
            go_roundw
            case rel => exact ⟨i, _, ts, va, vc, by omega, rfl, rfl, HF.out⟩
            case measure => simp [intOf]

end Go.Proofs.YtahnkmkmoalbhaaGreatDoor

/- The reference implementation of layer 1: Div of short numbers: walks. -/
namespace Go.Proofs.YtahnkmkmoalbhaaGreatDoor
open Go.RowKit

theorem short_bound {a : ByteArray} {m : Int} (h : shortV a = .tuple #[.int .i64 m, .bool true]) : m = vS a ∧ -100000000000000000 < m ∧ m < 100000000000000000 := by
  unfold shortV at h
  by_cases h17 : (Num.sdig a.data.toList).length ≤ 17
  · rw [if_pos h17] at h
    injection h with h
    have h2 : vS a = m := by
      have := congrArg (fun x : Array Value => x[0]?) h
      simp at this; exact this
    have h1 := Num.num_lt _ (Num.Plain.sdig a.data.toList).1
    have h3 := Nat.pow_le_pow_right (show 1 ≤ 10 by decide) h17
    have h4 : (vS a).natAbs = Num.mag a.data.toList := Num.natAbs_val _
    unfold Num.mag at h4
    omega
  · rw [if_neg h17] at h
    injection h with h
    have := congrArg (fun x : Array Value => x[1]?) h
    simp at this

/-- quotient and remainder towards zero, and down -/
theorem tdiv_facts (m n : Int) (hn : n ≠ 0) : m = m.tdiv n * n + m.tmod n ∧ (m.tmod n).natAbs < n.natAbs ∧ (0 ≤ m → 0 ≤ m.tmod n) ∧ (m ≤ 0 → m.tmod n ≤ 0) ∧ (m.tdiv n).natAbs ≤ m.natAbs := by
  refine ⟨by rw [Int.mul_comm]; exact (Int.mul_tdiv_add_tmod m n).symm, ?_, ?_, ?_, ?_⟩
  · rw [Int.natAbs_tmod]; exact Nat.mod_lt _ (by omega)
  · intro h; exact Int.tmod_nonneg _ h
  · intro h
    have h1 := Int.tmod_nonneg n (show 0 ≤ -m by omega)
    rw [Int.neg_tmod] at h1; omega
  · rw [Int.natAbs_tdiv]; exact Nat.div_le_self _ _

theorem div_down {m n q r : Int} (hn : n ≠ 0) (hq : q = m.tdiv n) (hr : r = m.tmod n) (h : r = 0 ∨ (r < 0 ∧ n < 0) ∨ (¬ r < 0 ∧ ¬ n < 0)) : Int.fdiv m n = q ∧ Int.fmod m n = r := by
  have hf := tdiv_facts m n hn
  rw [← hq, ← hr] at hf
  exact fdiv_unique hf.1 (by omega)
theorem div_fix {m n q r : Int} (hn : n ≠ 0) (hq : q = m.tdiv n) (hr : r = m.tmod n) (h0 : r ≠ 0) (h : (r < 0 ∧ ¬ n < 0) ∨ (¬ r < 0 ∧ n < 0)) : Int.fdiv m n = q - 1 ∧ Int.fmod m n = r + n := by
  have hf := tdiv_facts m n hn
  rw [← hq, ← hr] at hf
  exact fdiv_unique (by rw [Int.sub_mul]; omega) (by omega)

set_option maxRecDepth 100000 in
set_option maxHeartbeats 2000000 in
theorem rDiv_way0 (a b : ByteArray) (w : World) (ha : a.size ≤ 1000) (hb : b.size ≤ 1000) (m n q r : Int) (hsa : shortV a = .tuple #[.int .i64 m, .bool true]) (hsb : shortV b = .tuple #[.int .i64 n, .bool true])
    (hnz : (n == 0) = false) (hn : n ≠ 0) (hq : m.tdiv n = q) (hr : m.tmod n = r) (_n0 : -100000000000000000 < n) (_n1 : n < 100000000000000000)
    (q0 : -100000000000000000 < q) (q1 : q < 100000000000000000) (r0 : -100000000000000000 < r) (r1 : r < 100000000000000000) (h1 : (r != 0) = false) :
    Calls Tryz.prog 175 #[.string a, .string b] w fun e w' => e = .returned (.tuple #[.string (cS q), .string (cS r), .int .i64 0]) ∧ Below w.heap.size w w' := by
  have hw1 : IntKind.i64.wrap q = q := IntWalk.i64_in _ (by omega)
  have hw2 : IntKind.i64.wrap r = r := IntWalk.i64_in _ (by omega)
  have HSA := Lib.hid hsa
  have HSB := Lib.hid hsb
  clear hsa hsb
  go_enter Tryz.func175, Tryz.ntmps175
  go_wp2_with fail
  refine (short_any a w (by omega)).mono ?_
  rintro e _ ⟨rfl, rfl⟩
  rw [HSA.out]
  go_wp2_with fail
  refine (short_any b w (by omega)).mono ?_
  rintro e _ ⟨rfl, rfl⟩
  rw [HSB.out]
  go_wp2_with fail
  go_quiet (fail)
  clear hw1 hw2 hq hr
  go_wp2_with fail
  refine (rOf_any q _ (by omega) (by omega)).mono ?_
  rintro e _ ⟨rfl, rfl⟩
  go_wp2_with fail
  refine (rOf_any r _ (by omega) (by omega)).mono ?_
  rintro e _ ⟨rfl, rfl⟩
  go_wp2_with fail
  go_ret3
  exact ⟨rfl, below_drewN (Below.refl _ _) _⟩

set_option maxRecDepth 100000 in
set_option maxHeartbeats 2000000 in
theorem rDiv_way1 (a b : ByteArray) (w : World) (ha : a.size ≤ 1000) (hb : b.size ≤ 1000) (m n q r : Int) (hsa : shortV a = .tuple #[.int .i64 m, .bool true]) (hsb : shortV b = .tuple #[.int .i64 n, .bool true])
    (hnz : (n == 0) = false) (hn : n ≠ 0) (hq : m.tdiv n = q) (hr : m.tmod n = r) (_n0 : -100000000000000000 < n) (_n1 : n < 100000000000000000)
    (q0 : -100000000000000000 < q) (q1 : q < 100000000000000000) (r0 : -100000000000000000 < r) (r1 : r < 100000000000000000) (h1 : (r != 0) = true) (h2 : r < 0) (h3 : n < 0) :
    Calls Tryz.prog 175 #[.string a, .string b] w fun e w' => e = .returned (.tuple #[.string (cS q), .string (cS r), .int .i64 0]) ∧ Below w.heap.size w w' := by
  have hw1 : IntKind.i64.wrap q = q := IntWalk.i64_in _ (by omega)
  have hw2 : IntKind.i64.wrap r = r := IntWalk.i64_in _ (by omega)
  have HSA := Lib.hid hsa
  have HSB := Lib.hid hsb
  have hd1 : decide (r < 0) = true := by rw [decide_eq_true_iff]; omega
  have hd2 : decide (n < 0) = true := by rw [decide_eq_true_iff]; omega
  clear hsa hsb
  go_enter Tryz.func175, Tryz.ntmps175
  go_wp2_with fail
  refine (short_any a w (by omega)).mono ?_
  rintro e _ ⟨rfl, rfl⟩
  rw [HSA.out]
  go_wp2_with fail
  refine (short_any b w (by omega)).mono ?_
  rintro e _ ⟨rfl, rfl⟩
  rw [HSB.out]
  go_wp2_with fail
  go_quiet (fail)
  clear hw1 hw2 hq hr
  go_wp2_with fail
  refine (rOf_any q _ (by omega) (by omega)).mono ?_
  rintro e _ ⟨rfl, rfl⟩
  go_wp2_with fail
  refine (rOf_any r _ (by omega) (by omega)).mono ?_
  rintro e _ ⟨rfl, rfl⟩
  go_wp2_with fail
  go_ret3
  exact ⟨rfl, below_drewN (Below.refl _ _) _⟩

set_option maxRecDepth 100000 in
set_option maxHeartbeats 2000000 in
theorem rDiv_way2 (a b : ByteArray) (w : World) (ha : a.size ≤ 1000) (hb : b.size ≤ 1000) (m n q r : Int) (hsa : shortV a = .tuple #[.int .i64 m, .bool true]) (hsb : shortV b = .tuple #[.int .i64 n, .bool true])
    (hnz : (n == 0) = false) (hn : n ≠ 0) (hq : m.tdiv n = q) (hr : m.tmod n = r) (_n0 : -100000000000000000 < n) (_n1 : n < 100000000000000000)
    (q0 : -100000000000000000 < q) (q1 : q < 100000000000000000) (r0 : -100000000000000000 < r) (r1 : r < 100000000000000000) (h1 : (r != 0) = true) (h2 : 0 ≤ r) (h3 : 0 ≤ n) :
    Calls Tryz.prog 175 #[.string a, .string b] w fun e w' => e = .returned (.tuple #[.string (cS q), .string (cS r), .int .i64 0]) ∧ Below w.heap.size w w' := by
  have hw1 : IntKind.i64.wrap q = q := IntWalk.i64_in _ (by omega)
  have hw2 : IntKind.i64.wrap r = r := IntWalk.i64_in _ (by omega)
  have HSA := Lib.hid hsa
  have HSB := Lib.hid hsb
  have hd1 : decide (r < 0) = false := by rw [decide_eq_false_iff_not]; omega
  have hd2 : decide (n < 0) = false := by rw [decide_eq_false_iff_not]; omega
  clear hsa hsb
  go_enter Tryz.func175, Tryz.ntmps175
  go_wp2_with fail
  refine (short_any a w (by omega)).mono ?_
  rintro e _ ⟨rfl, rfl⟩
  rw [HSA.out]
  go_wp2_with fail
  refine (short_any b w (by omega)).mono ?_
  rintro e _ ⟨rfl, rfl⟩
  rw [HSB.out]
  go_wp2_with fail
  go_quiet (fail)
  clear hw1 hw2 hq hr
  go_wp2_with fail
  refine (rOf_any q _ (by omega) (by omega)).mono ?_
  rintro e _ ⟨rfl, rfl⟩
  go_wp2_with fail
  refine (rOf_any r _ (by omega) (by omega)).mono ?_
  rintro e _ ⟨rfl, rfl⟩
  go_wp2_with fail
  go_ret3
  exact ⟨rfl, below_drewN (Below.refl _ _) _⟩

set_option maxRecDepth 100000 in
set_option maxHeartbeats 2000000 in
theorem rDiv_way3 (a b : ByteArray) (w : World) (ha : a.size ≤ 1000) (hb : b.size ≤ 1000) (m n q r : Int) (hsa : shortV a = .tuple #[.int .i64 m, .bool true]) (hsb : shortV b = .tuple #[.int .i64 n, .bool true])
    (hnz : (n == 0) = false) (hn : n ≠ 0) (hq : m.tdiv n = q) (hr : m.tmod n = r) (n0 : -100000000000000000 < n) (n1 : n < 100000000000000000)
    (q0 : -100000000000000000 < q) (q1 : q < 100000000000000000) (r0 : -100000000000000000 < r) (r1 : r < 100000000000000000) (h1 : (r != 0) = true) (h2 : r < 0) (h3 : 0 ≤ n) :
    Calls Tryz.prog 175 #[.string a, .string b] w fun e w' => e = .returned (.tuple #[.string (cS (q - 1)), .string (cS (r + n)), .int .i64 0]) ∧ Below w.heap.size w w' := by
  have hw1 : IntKind.i64.wrap q = q := IntWalk.i64_in _ (by omega)
  have hw2 : IntKind.i64.wrap r = r := IntWalk.i64_in _ (by omega)
  have HSA := Lib.hid hsa
  have HSB := Lib.hid hsb
  have hd1 : decide (r < 0) = true := by rw [decide_eq_true_iff]; omega
  have hd2 : decide (n < 0) = false := by rw [decide_eq_false_iff_not]; omega
  clear hsa hsb
  go_enter Tryz.func175, Tryz.ntmps175
  go_wp2_with fail
  refine (short_any a w (by omega)).mono ?_
  rintro e _ ⟨rfl, rfl⟩
  rw [HSA.out]
  go_wp2_with fail
  refine (short_any b w (by omega)).mono ?_
  rintro e _ ⟨rfl, rfl⟩
  rw [HSB.out]
  go_wp2_with fail
  go_quiet (fail)
  clear hw1 hw2 hq hr
  go_wp2_with fail
  refine (rOf_any (q - 1) _ (by omega) (by omega)).mono ?_
  rintro e _ ⟨rfl, rfl⟩
  go_wp2_with fail
  refine (rOf_any (r + n) _ (by omega) (by omega)).mono ?_
  rintro e _ ⟨rfl, rfl⟩
  go_wp2_with fail
  go_ret3
  exact ⟨rfl, below_drewN (Below.refl _ _) _⟩

set_option maxRecDepth 100000 in
set_option maxHeartbeats 2000000 in
theorem rDiv_way4 (a b : ByteArray) (w : World) (ha : a.size ≤ 1000) (hb : b.size ≤ 1000) (m n q r : Int) (hsa : shortV a = .tuple #[.int .i64 m, .bool true]) (hsb : shortV b = .tuple #[.int .i64 n, .bool true])
    (hnz : (n == 0) = false) (hn : n ≠ 0) (hq : m.tdiv n = q) (hr : m.tmod n = r) (n0 : -100000000000000000 < n) (n1 : n < 100000000000000000)
    (q0 : -100000000000000000 < q) (q1 : q < 100000000000000000) (r0 : -100000000000000000 < r) (r1 : r < 100000000000000000) (h1 : (r != 0) = true) (h2 : 0 ≤ r) (h3 : n < 0) :
    Calls Tryz.prog 175 #[.string a, .string b] w fun e w' => e = .returned (.tuple #[.string (cS (q - 1)), .string (cS (r + n)), .int .i64 0]) ∧ Below w.heap.size w w' := by
  have hw1 : IntKind.i64.wrap q = q := IntWalk.i64_in _ (by omega)
  have hw2 : IntKind.i64.wrap r = r := IntWalk.i64_in _ (by omega)
  have HSA := Lib.hid hsa
  have HSB := Lib.hid hsb
  have hd1 : decide (r < 0) = false := by rw [decide_eq_false_iff_not]; omega
  have hd2 : decide (n < 0) = true := by rw [decide_eq_true_iff]; omega
  clear hsa hsb
  go_enter Tryz.func175, Tryz.ntmps175
  go_wp2_with fail
  refine (short_any a w (by omega)).mono ?_
  rintro e _ ⟨rfl, rfl⟩
  rw [HSA.out]
  go_wp2_with fail
  refine (short_any b w (by omega)).mono ?_
  rintro e _ ⟨rfl, rfl⟩
  rw [HSB.out]
  go_wp2_with fail
  go_quiet (fail)
  clear hw1 hw2 hq hr
  go_wp2_with fail
  refine (rOf_any (q - 1) _ (by omega) (by omega)).mono ?_
  rintro e _ ⟨rfl, rfl⟩
  go_wp2_with fail
  refine (rOf_any (r + n) _ (by omega) (by omega)).mono ?_
  rintro e _ ⟨rfl, rfl⟩
  go_wp2_with fail
  go_ret3
  exact ⟨rfl, below_drewN (Below.refl _ _) _⟩

theorem rDiv_short (a b : ByteArray) (w : World) (ha : a.size ≤ 1000) (hb : b.size ≤ 1000) (m n : Int) (hsa : shortV a = .tuple #[.int .i64 m, .bool true]) (hsb : shortV b = .tuple #[.int .i64 n, .bool true]) (hn : n ≠ 0) :
    Calls Tryz.prog 175 #[.string a, .string b] w (DivPost w m n) := by
  obtain ⟨_, m0, m1⟩ := short_bound hsa
  obtain ⟨_, n0, n1⟩ := short_bound hsb
  obtain ⟨q, hq⟩ : ∃ q, m.tdiv n = q := ⟨_, rfl⟩
  obtain ⟨r, hr⟩ : ∃ r, m.tmod n = r := ⟨_, rfl⟩
  have hf := tdiv_facts m n hn
  rw [hq, hr] at hf
  have hnz : (n == 0) = false := by rw [beq_eq_false_iff_ne]; exact hn
  have q0 : -100000000000000000 < q := by omega
  have q1 : q < 100000000000000000 := by omega
  have r0 : -100000000000000000 < r := by omega
  have r1 : r < 100000000000000000 := by omega
  unfold DivPost
  by_cases h : r = 0
  · have hd := div_down hn hq.symm hr.symm (.inl h)
    rw [hd.1, hd.2]
    exact rDiv_way0 a b w ha hb m n q r hsa hsb hnz hn hq hr n0 n1 q0 q1 r0 r1 (by rw [h]; rfl)
  · have h1 : (r != 0) = true := by rw [bne_iff_ne]; exact h
    by_cases h2 : r < 0
    · by_cases h3 : n < 0
      · have hd := div_down hn hq.symm hr.symm (.inr (.inl ⟨h2, h3⟩))
        rw [hd.1, hd.2]
        exact rDiv_way1 a b w ha hb m n q r hsa hsb hnz hn hq hr n0 n1 q0 q1 r0 r1 h1 h2 h3
      · have hd := div_fix hn hq.symm hr.symm h (.inl ⟨h2, h3⟩)
        rw [hd.1, hd.2]
        exact rDiv_way3 a b w ha hb m n q r hsa hsb hnz hn hq hr n0 n1 q0 q1 r0 r1 h1 h2 (by omega)
    · by_cases h3 : n < 0
      · have hd := div_fix hn hq.symm hr.symm h (.inr ⟨h2, h3⟩)
        rw [hd.1, hd.2]
        exact rDiv_way4 a b w ha hb m n q r hsa hsb hnz hn hq hr n0 n1 q0 q1 r0 r1 h1 (by omega) h3
      · have hd := div_down hn hq.symm hr.symm (.inr (.inr ⟨h2, h3⟩))
        rw [hd.1, hd.2]
        exact rDiv_way2 a b w ha hb m n q r hsa hsb hnz hn hq hr n0 n1 q0 q1 r0 r1 h1 (by omega) (by omega)

end Go.Proofs.YtahnkmkmoalbhaaGreatDoor
