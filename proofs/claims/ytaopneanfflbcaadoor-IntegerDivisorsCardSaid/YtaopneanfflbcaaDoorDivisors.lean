/- the law IntegerDivisors: the walk. -/
import Derived.Test.YtaopneanfflbcaaDoorQuotients
namespace Go.Proofs.YtaopneanfflbcaaDoor
open Go.RowKit

theorem cap_gcd {k : Nat} {x y : Int} (hx : Cap k x) (hy : Cap k y) : Cap k (Int.gcd x y : Int) := by
  unfold Cap at *
  rw [Int.natAbs_natCast]
  by_cases h : x = 0
  · subst h; rw [Int.gcd_zero_left]; exact hy
  · exact Nat.lt_of_le_of_lt (Nat.le_of_dvd (Int.natAbs_pos.2 h) (Nat.gcd_dvd_left _ _)) hx
/-- what the greatest common divisor g of x and y, not both 0, gives -/
structure GcdFacts (x y g : Int) : Prop where
  pos : 0 < g
  xy : (Int.gcd x y : Int) = g
  yx : (Int.gcd y x : Int) = g
  rx : Int.fmod x g = 0
  ry : Int.fmod y g = 0
  one : (Int.gcd (Int.fdiv x g) (Int.fdiv y g) : Int) = 1
theorem GcdFacts.of {x y g : Int} (h : (Int.gcd x y : Int) = g) (h0 : g ≠ 0) : GcdFacts x y g := by
  have hp : 0 < g := by omega
  have hx : Int.fmod x g = 0 := by rw [← h]; exact Int.fmod_eq_zero_of_dvd (Int.gcd_dvd_left x y)
  have hy : Int.fmod y g = 0 := by rw [← h]; exact Int.fmod_eq_zero_of_dvd (Int.gcd_dvd_right x y)
  refine ⟨hp, h, by rw [Int.gcd_comm, h], hx, hy, ?_⟩
  have h1 := fdiv_fmod x g
  have h2 := fdiv_fmod y g
  rw [hx, Int.add_zero] at h1
  rw [hy, Int.add_zero] at h2
  have h3 : (Int.gcd x y : Int) = (Int.gcd (Int.fdiv x g * g) (Int.fdiv y g * g) : Int) := by rw [h1, h2]
  rw [Int.gcd_mul_right, h] at h3
  have h4 : (g.natAbs : Int) = g := by omega
  rw [Int.natCast_mul, h4] at h3
  have h5 : (1 : Int) * g = (Int.gcd (Int.fdiv x g) (Int.fdiv y g) : Int) * g := by rw [Int.one_mul]; exact h3
  exact (Int.eq_of_mul_eq_mul_right (by omega) h5).symm
theorem gcd_times {x y z g s : Int} (h : (Int.gcd x y : Int) = g) (hs : (z.natAbs : Int) = s) : (Int.gcd (x * z) (y * z) : Int) = g * s := by
  rw [Int.gcd_mul_right, Int.natCast_mul, h, hs]
theorem gcd_plus {x y z g : Int} (h : (Int.gcd x y : Int) = g) : (Int.gcd (x + y * z) y : Int) = g := by
  rw [Int.gcd_add_mul_left_left]; exact h
theorem cS_isEmpty_ne {z : Int} (h : z ≠ 0) : (cS z).toList.isEmpty = false := by rw [cS_empty]; simpa using h

set_option maxRecDepth 100000 in
set_option maxHeartbeats 16000000 in
theorem divisors_any (a b c : ByteArray) (w : World) (hG : Ground w) :
    Calls Tryd.prog 9 #[.string a, .string b, .string c] w fun e w' => e = .returned (.bool true) ∧ Below w.heap.size w w' := by
  have hB : Below w.heap.size w w := Below.refl _ _
  by_cases h1 : (30 : Int) < a.size
  · go_enter Tryd.func9, Tryd.ntmps9
    go_wp2_with fail
    refine (awake_any w (hG.below hB)).mono ?_
    rintro e w1 ⟨rfl, h⟩
    replace hB := hB.trans (h.mono hB.size)
    clear h
    go_wp2_with fail
    go_ret
    exact ⟨rfl, hB⟩
  by_cases h2 : (30 : Int) < b.size
  · go_enter Tryd.func9, Tryd.ntmps9
    go_wp2_with fail
    refine (awake_any w (hG.below hB)).mono ?_
    rintro e w1 ⟨rfl, h⟩
    replace hB := hB.trans (h.mono hB.size)
    clear h
    go_wp2_with fail
    go_ret
    exact ⟨rfl, hB⟩
  by_cases h3 : (30 : Int) < c.size
  · go_enter Tryd.func9, Tryd.ntmps9
    go_wp2_with fail
    refine (awake_any w (hG.below hB)).mono ?_
    rintro e w1 ⟨rfl, h⟩
    replace hB := hB.trans (h.mono hB.size)
    clear h
    go_wp2_with fail
    go_ret
    exact ⟨rfl, hB⟩
  obtain ⟨x, hx⟩ : ∃ x, vS a = x := ⟨_, rfl⟩
  obtain ⟨y, hy⟩ : ∃ y, vS b = y := ⟨_, rfl⟩
  obtain ⟨z, hz⟩ : ∃ z, vS c = z := ⟨_, rfl⟩
  have s1 : a.size ≤ 30 := by omega
  have s2 : b.size ≤ 30 := by omega
  have s3 : c.size ≤ 30 := by omega
  have Ha := Lib.hid (And.intro hx s1)
  have Hb := Lib.hid (And.intro hy s2)
  have Hc := Lib.hid (And.intro hz s3)
  have hcg := cap_gcd (Cap.of s1 hx) (Cap.of s2 hy)
  clear hx hy hz s1 s2 s3
  by_cases g0 : (Int.gcd x y : Int) = 0
  · have hxy : x = 0 ∧ y = 0 := by have := Int.gcd_eq_zero_iff.1 (by omega : Int.gcd x y = 0); exact this
    have HXY := Lib.hid (And.intro hxy g0)
    clear hxy g0 hcg
    go_enter Tryd.func9, Tryd.ntmps9
    go_wp2_with fail
    refine (gcd_v (a := a) (b := b) (x := x) (y := y) (z := 0) w (hG.below hB) (Nat.le_trans Ha.out.2 (by decide)) (Nat.le_trans Hb.out.2 (by decide)) Ha.out.1 Hb.out.1 (HXY.out.2)).mono ?_
    rintro e w1 ⟨rfl, h⟩
    replace hB := hB.trans (h.mono hB.size)
    clear h
    rw [cS_zero]
    go_wp2_with fail
    refine (compare_v (a := ⟨#[]⟩) (b := ⟨#[]⟩) (x := 0) (y := 0) (z := 0) w1 (by decide) (by decide) vS_nil vS_nil (cmp3_eq rfl)).mono ?_
    rintro e w2 ⟨rfl, h⟩
    replace hB := hB.trans (h.mono hB.size)
    clear h
    go_wp2_with fail
    refine (gcd_v (a := b) (b := a) (x := y) (y := x) (z := 0) w2 (hG.below hB) (Nat.le_trans Hb.out.2 (by decide)) (Nat.le_trans Ha.out.2 (by decide)) Hb.out.1 Ha.out.1 (by rw [Int.gcd_comm]; exact HXY.out.2)).mono ?_
    rintro e w3 ⟨rfl, h⟩
    replace hB := hB.trans (h.mono hB.size)
    clear h
    rw [cS_zero]
    go_wp2_with fail
    refine (canonical_v (a := a) (x := x) (z := 0) w3 (Nat.le_trans Ha.out.2 (by decide)) Ha.out.1 (HXY.out.1.1)).mono ?_
    rintro e _ ⟨rfl, rfl⟩
    rw [cS_zero]
    go_wp2_with fail
    refine (canonical_v (a := b) (x := y) (z := 0) w3 (Nat.le_trans Hb.out.2 (by decide)) Hb.out.1 (HXY.out.1.2)).mono ?_
    rintro e _ ⟨rfl, rfl⟩
    rw [cS_zero]
    go_wp2_with fail
    refine (canonical_v (a := c) (x := z) (z := z) w3 (Nat.le_trans Hc.out.2 (by decide)) Hc.out.1 rfl).mono ?_
    rintro e _ ⟨rfl, rfl⟩
    go_wp2_with fail
    by_cases z0 : z < 0
    · have HZ0 := Lib.hid z0
      clear z0
      refine (compare_v (a := cS z) (b := ⟨#[]⟩) (x := z) (y := 0) (z := -1) w3 (Cap.size (k := 30) (Cap.of Hc.out.2 Hc.out.1) (by decide)) (by decide) (vS_cS _) vS_nil (cmp3_lt HZ0.out)).mono ?_
      rintro e w4 ⟨rfl, h⟩
      replace hB := hB.trans (h.mono hB.size)
      clear h
      go_wp2_with fail
      refine (neg_v (a := (cS (z))) (x := z) (z := -z) w4 (Cap.size (k := 30) (Cap.of Hc.out.2 Hc.out.1) (by decide)) (vS_cS _) (rfl)).mono ?_
      rintro e _ ⟨rfl, rfl⟩
      go_wp2_with fail
      refine (mul_v (a := a) (b := c) (x := x) (y := z) (z := x * z) w4 (hG.below hB) (Nat.le_trans Ha.out.2 (by decide)) (Nat.le_trans Hc.out.2 (by decide)) Ha.out.1 Hc.out.1 (rfl)).mono ?_
      rintro e w5 ⟨rfl, h⟩
      replace hB := hB.trans (h.mono hB.size)
      clear h
      go_wp2_with fail
      refine (mul_v (a := b) (b := c) (x := y) (y := z) (z := y * z) w5 (hG.below hB) (Nat.le_trans Hb.out.2 (by decide)) (Nat.le_trans Hc.out.2 (by decide)) Hb.out.1 Hc.out.1 (rfl)).mono ?_
      rintro e w6 ⟨rfl, h⟩
      replace hB := hB.trans (h.mono hB.size)
      clear h
      go_wp2_with fail
      refine (gcd_v (a := (cS (x * z))) (b := (cS (y * z))) (x := x * z) (y := y * z) (z := 0 * (-z)) w6 (hG.below hB) (Cap.size (k := 60) (Cap.mul (Cap.of Ha.out.2 Ha.out.1) (Cap.of Hc.out.2 Hc.out.1)) (by decide)) (Cap.size (k := 60) (Cap.mul (Cap.of Hb.out.2 Hb.out.1) (Cap.of Hc.out.2 Hc.out.1)) (by decide)) (vS_cS _) (vS_cS _) (gcd_times HXY.out.2 (by have := HZ0.out; omega))).mono ?_
      rintro e w7 ⟨rfl, h⟩
      replace hB := hB.trans (h.mono hB.size)
      clear h
      go_wp2_with fail
      refine (mul_v (a := ⟨#[]⟩) (b := (cS (-z))) (x := 0) (y := -z) (z := 0 * (-z)) w7 (hG.below hB) (by decide) (Cap.size (k := 30) (Cap.neg (Cap.of Hc.out.2 Hc.out.1)) (by decide)) vS_nil (vS_cS _) (rfl)).mono ?_
      rintro e w8 ⟨rfl, h⟩
      replace hB := hB.trans (h.mono hB.size)
      clear h
      go_wp2_with fail
      refine (awake_any w8 (hG.below hB)).mono ?_
      rintro e w9 ⟨rfl, h⟩
      replace hB := hB.trans (h.mono hB.size)
      clear h
      go_wp2_with fail
      go_ret
      exact ⟨rfl, hB⟩
    · have HZ0 := Lib.hid z0
      clear z0
      obtain ⟨s, hs⟩ : ∃ s, cmp3 z 0 = s := ⟨_, rfl⟩
      have hs0 : 0 ≤ s := by rw [← hs]; have := HZ0.out; unfold cmp3; rw [if_neg this]; split <;> omega
      refine (compare_v (a := cS z) (b := ⟨#[]⟩) (x := z) (y := 0) (z := s) w3 (Cap.size (k := 30) (Cap.of Hc.out.2 Hc.out.1) (by decide)) (by decide) (vS_cS _) vS_nil hs).mono ?_
      rintro e w4 ⟨rfl, h⟩
      replace hB := hB.trans (h.mono hB.size)
      clear h
      go_wp2_with fail
      refine (mul_v (a := a) (b := c) (x := x) (y := z) (z := x * z) w4 (hG.below hB) (Nat.le_trans Ha.out.2 (by decide)) (Nat.le_trans Hc.out.2 (by decide)) Ha.out.1 Hc.out.1 (rfl)).mono ?_
      rintro e w5 ⟨rfl, h⟩
      replace hB := hB.trans (h.mono hB.size)
      clear h
      go_wp2_with fail
      refine (mul_v (a := b) (b := c) (x := y) (y := z) (z := y * z) w5 (hG.below hB) (Nat.le_trans Hb.out.2 (by decide)) (Nat.le_trans Hc.out.2 (by decide)) Hb.out.1 Hc.out.1 (rfl)).mono ?_
      rintro e w6 ⟨rfl, h⟩
      replace hB := hB.trans (h.mono hB.size)
      clear h
      go_wp2_with fail
      refine (gcd_v (a := (cS (x * z))) (b := (cS (y * z))) (x := x * z) (y := y * z) (z := 0 * z) w6 (hG.below hB) (Cap.size (k := 60) (Cap.mul (Cap.of Ha.out.2 Ha.out.1) (Cap.of Hc.out.2 Hc.out.1)) (by decide)) (Cap.size (k := 60) (Cap.mul (Cap.of Hb.out.2 Hb.out.1) (Cap.of Hc.out.2 Hc.out.1)) (by decide)) (vS_cS _) (vS_cS _) (gcd_times HXY.out.2 (by have := HZ0.out; omega))).mono ?_
      rintro e w7 ⟨rfl, h⟩
      replace hB := hB.trans (h.mono hB.size)
      clear h
      go_wp2_with fail
      refine (mul_v (a := ⟨#[]⟩) (b := (cS (z))) (x := 0) (y := z) (z := 0 * z) w7 (hG.below hB) (by decide) (Cap.size (k := 30) (Cap.of Hc.out.2 Hc.out.1) (by decide)) vS_nil (vS_cS _) (rfl)).mono ?_
      rintro e w8 ⟨rfl, h⟩
      replace hB := hB.trans (h.mono hB.size)
      clear h
      go_wp2_with fail
      refine (awake_any w8 (hG.below hB)).mono ?_
      rintro e w9 ⟨rfl, h⟩
      replace hB := hB.trans (h.mono hB.size)
      clear h
      go_wp2_with fail
      go_ret
      exact ⟨rfl, hB⟩
  · obtain ⟨g, hg⟩ : ∃ g, (Int.gcd x y : Int) = g := ⟨_, rfl⟩
    rw [hg] at g0 hcg
    have hge := cS_isEmpty_ne g0
    have HG := Lib.hid (GcdFacts.of hg g0)
    have HC := Lib.hid hcg
    have hgp := HG.out.pos
    have HGP := Lib.hid hgp
    clear hg g0 hcg hgp
    go_enter Tryd.func9, Tryd.ntmps9
    go_wp2_with fail
    refine (gcd_v (a := a) (b := b) (x := x) (y := y) (z := g) w (hG.below hB) (Nat.le_trans Ha.out.2 (by decide)) (Nat.le_trans Hb.out.2 (by decide)) Ha.out.1 Hb.out.1 HG.out.xy).mono ?_
    rintro e w1 ⟨rfl, h⟩
    replace hB := hB.trans (h.mono hB.size)
    clear h
    go_wp2_with fail
    refine (compare_v (a := (cS (g))) (b := ⟨#[]⟩) (x := g) (y := 0) (z := 1) w1 (Cap.size (k := 30) HC.out (by decide)) (by decide) (vS_cS _) vS_nil (cmp3_gt HGP.out)).mono ?_
    rintro e w2 ⟨rfl, h⟩
    replace hB := hB.trans (h.mono hB.size)
    clear h
    go_wp2_with fail
    refine (gcd_v (a := b) (b := a) (x := y) (y := x) (z := g) w2 (hG.below hB) (Nat.le_trans Hb.out.2 (by decide)) (Nat.le_trans Ha.out.2 (by decide)) Hb.out.1 Ha.out.1 HG.out.yx).mono ?_
    rintro e w3 ⟨rfl, h⟩
    replace hB := hB.trans (h.mono hB.size)
    clear h
    go_wp2_with fail
    by_cases x0 : x = 0
    · have y0 : y ≠ 0 := by
        intro h
        have := HG.out.xy
        have := HGP.out
        rw [x0, h] at *
        simp at *
        omega
      have hye := cS_isEmpty_ne y0
      have HX0 := Lib.hid x0
      clear x0 y0
      refine (canonical_v (a := a) (x := x) (z := 0) w3 (Nat.le_trans Ha.out.2 (by decide)) Ha.out.1 HX0.out).mono ?_
      rintro e _ ⟨rfl, rfl⟩
      rw [cS_zero]
      go_wp2_with fail
      refine (canonical_v (a := b) (x := y) (z := y) w3 (Nat.le_trans Hb.out.2 (by decide)) Hb.out.1 rfl).mono ?_
      rintro e _ ⟨rfl, rfl⟩
      go_wp2_with fail
      refine (canonical_v (a := c) (x := z) (z := z) w3 (Nat.le_trans Hc.out.2 (by decide)) Hc.out.1 rfl).mono ?_
      rintro e _ ⟨rfl, rfl⟩
      go_wp2_with fail
      by_cases z0 : z < 0
      · have HZ0 := Lib.hid z0
        clear z0
        refine (compare_v (a := cS z) (b := ⟨#[]⟩) (x := z) (y := 0) (z := -1) w3 (Cap.size (k := 30) (Cap.of Hc.out.2 Hc.out.1) (by decide)) (by decide) (vS_cS _) vS_nil (cmp3_lt HZ0.out)).mono ?_
        rintro e w4 ⟨rfl, h⟩
        replace hB := hB.trans (h.mono hB.size)
        clear h
        go_wp2_with fail
        refine (neg_v (a := (cS (z))) (x := z) (z := -z) w4 (Cap.size (k := 30) (Cap.of Hc.out.2 Hc.out.1) (by decide)) (vS_cS _) (rfl)).mono ?_
        rintro e _ ⟨rfl, rfl⟩
        go_wp2_with fail
        refine (mul_v (a := a) (b := c) (x := x) (y := z) (z := x * z) w4 (hG.below hB) (Nat.le_trans Ha.out.2 (by decide)) (Nat.le_trans Hc.out.2 (by decide)) Ha.out.1 Hc.out.1 (rfl)).mono ?_
        rintro e w5 ⟨rfl, h⟩
        replace hB := hB.trans (h.mono hB.size)
        clear h
        go_wp2_with fail
        refine (mul_v (a := b) (b := c) (x := y) (y := z) (z := y * z) w5 (hG.below hB) (Nat.le_trans Hb.out.2 (by decide)) (Nat.le_trans Hc.out.2 (by decide)) Hb.out.1 Hc.out.1 (rfl)).mono ?_
        rintro e w6 ⟨rfl, h⟩
        replace hB := hB.trans (h.mono hB.size)
        clear h
        go_wp2_with fail
        refine (gcd_v (a := (cS (x * z))) (b := (cS (y * z))) (x := x * z) (y := y * z) (z := g * (-z)) w6 (hG.below hB) (Cap.size (k := 60) (Cap.mul (Cap.of Ha.out.2 Ha.out.1) (Cap.of Hc.out.2 Hc.out.1)) (by decide)) (Cap.size (k := 60) (Cap.mul (Cap.of Hb.out.2 Hb.out.1) (Cap.of Hc.out.2 Hc.out.1)) (by decide)) (vS_cS _) (vS_cS _) (gcd_times HG.out.xy (by have := HZ0.out; omega))).mono ?_
        rintro e w7 ⟨rfl, h⟩
        replace hB := hB.trans (h.mono hB.size)
        clear h
        go_wp2_with fail
        refine (mul_v (a := (cS (g))) (b := (cS (-z))) (x := g) (y := -z) (z := g * (-z)) w7 (hG.below hB) (Cap.size (k := 30) HC.out (by decide)) (Cap.size (k := 30) (Cap.neg (Cap.of Hc.out.2 Hc.out.1)) (by decide)) (vS_cS _) (vS_cS _) (rfl)).mono ?_
        rintro e w8 ⟨rfl, h⟩
        replace hB := hB.trans (h.mono hB.size)
        clear h
        obtain ⟨qx, hqx⟩ : ∃ q, Int.fdiv x g = q := ⟨_, rfl⟩
        go_wp2_with fail
        refine (div_v (a := a) (b := cS g) (x := x) (y := g) (q := qx) (r := 0) w8 (hG.below hB) (Nat.le_trans Ha.out.2 (by decide)) (Cap.size (k := 30) HC.out (by decide)) Ha.out.1 (vS_cS _) (Int.ne_of_gt HG.out.pos) hqx HG.out.rx).mono ?_
        rintro e w9 ⟨rfl, h⟩
        replace hB := hB.trans (h.mono hB.size)
        clear h
        rw [cS_zero]
        have HCx := Lib.hid (hqx ▸ cap_fdiv (Cap.of Ha.out.2 Ha.out.1) (Int.ne_of_gt HG.out.pos))
        obtain ⟨qy, hqy⟩ : ∃ q, Int.fdiv y g = q := ⟨_, rfl⟩
        go_wp2_with fail
        refine (div_v (a := b) (b := cS g) (x := y) (y := g) (q := qy) (r := 0) w9 (hG.below hB) (Nat.le_trans Hb.out.2 (by decide)) (Cap.size (k := 30) HC.out (by decide)) Hb.out.1 (vS_cS _) (Int.ne_of_gt HG.out.pos) hqy HG.out.ry).mono ?_
        rintro e w10 ⟨rfl, h⟩
        replace hB := hB.trans (h.mono hB.size)
        clear h
        rw [cS_zero]
        have HCy := Lib.hid (hqy ▸ cap_fdiv (Cap.of Hb.out.2 Hb.out.1) (Int.ne_of_gt HG.out.pos))
        have hone : (Int.gcd qx qy : Int) = 1 := by rw [← hqx, ← hqy]; exact HG.out.one
        have HONE := Lib.hid hone
        clear hone hqx hqy
        go_wp2_with fail
        refine (gcd_v (a := (cS (qx))) (b := (cS (qy))) (x := qx) (y := qy) (z := 1) w10 (hG.below hB) (Cap.size (k := 30) HCx.out (by decide)) (Cap.size (k := 30) HCy.out (by decide)) (vS_cS _) (vS_cS _) HONE.out).mono ?_
        rintro e w11 ⟨rfl, h⟩
        replace hB := hB.trans (h.mono hB.size)
        clear h
        rw [cS_one]
        go_wp2_with fail
        refine (mul_v (a := b) (b := c) (x := y) (y := z) (z := y * z) w11 (hG.below hB) (Nat.le_trans Hb.out.2 (by decide)) (Nat.le_trans Hc.out.2 (by decide)) Hb.out.1 Hc.out.1 (rfl)).mono ?_
        rintro e w12 ⟨rfl, h⟩
        replace hB := hB.trans (h.mono hB.size)
        clear h
        go_wp2_with fail
        refine (add_v (a := a) (b := (cS (y * z))) (x := x) (y := y * z) (z := x + (y * z)) w12 (hG.below hB) (Nat.le_trans Ha.out.2 (by decide)) (Cap.size (k := 60) (Cap.mul (Cap.of Hb.out.2 Hb.out.1) (Cap.of Hc.out.2 Hc.out.1)) (by decide)) Ha.out.1 (vS_cS _) (rfl)).mono ?_
        rintro e w13 ⟨rfl, h⟩
        replace hB := hB.trans (h.mono hB.size)
        clear h
        go_wp2_with fail
        refine (gcd_v (a := (cS (x + (y * z)))) (b := b) (x := x + (y * z)) (y := y) (z := g) w13 (hG.below hB) (Cap.size (k := 61) (Cap.add (Cap.mono (Cap.of Ha.out.2 Ha.out.1) (by decide) : Cap 60 _) (Cap.mul (Cap.of Hb.out.2 Hb.out.1) (Cap.of Hc.out.2 Hc.out.1))) (by decide)) (Nat.le_trans Hb.out.2 (by decide)) (vS_cS _) Hb.out.1 (gcd_plus HG.out.xy)).mono ?_
        rintro e w14 ⟨rfl, h⟩
        replace hB := hB.trans (h.mono hB.size)
        clear h
        go_wp2_with fail
        refine (awake_any w14 (hG.below hB)).mono ?_
        rintro e w15 ⟨rfl, h⟩
        replace hB := hB.trans (h.mono hB.size)
        clear h
        go_wp2_with fail
        go_ret
        exact ⟨rfl, hB⟩
      · have HZ0 := Lib.hid z0
        clear z0
        obtain ⟨s, hs⟩ : ∃ s, cmp3 z 0 = s := ⟨_, rfl⟩
        have hs0 : 0 ≤ s := by rw [← hs]; have := HZ0.out; unfold cmp3; rw [if_neg this]; split <;> omega
        refine (compare_v (a := cS z) (b := ⟨#[]⟩) (x := z) (y := 0) (z := s) w3 (Cap.size (k := 30) (Cap.of Hc.out.2 Hc.out.1) (by decide)) (by decide) (vS_cS _) vS_nil hs).mono ?_
        rintro e w4 ⟨rfl, h⟩
        replace hB := hB.trans (h.mono hB.size)
        clear h
        go_wp2_with fail
        refine (mul_v (a := a) (b := c) (x := x) (y := z) (z := x * z) w4 (hG.below hB) (Nat.le_trans Ha.out.2 (by decide)) (Nat.le_trans Hc.out.2 (by decide)) Ha.out.1 Hc.out.1 (rfl)).mono ?_
        rintro e w5 ⟨rfl, h⟩
        replace hB := hB.trans (h.mono hB.size)
        clear h
        go_wp2_with fail
        refine (mul_v (a := b) (b := c) (x := y) (y := z) (z := y * z) w5 (hG.below hB) (Nat.le_trans Hb.out.2 (by decide)) (Nat.le_trans Hc.out.2 (by decide)) Hb.out.1 Hc.out.1 (rfl)).mono ?_
        rintro e w6 ⟨rfl, h⟩
        replace hB := hB.trans (h.mono hB.size)
        clear h
        go_wp2_with fail
        refine (gcd_v (a := (cS (x * z))) (b := (cS (y * z))) (x := x * z) (y := y * z) (z := g * z) w6 (hG.below hB) (Cap.size (k := 60) (Cap.mul (Cap.of Ha.out.2 Ha.out.1) (Cap.of Hc.out.2 Hc.out.1)) (by decide)) (Cap.size (k := 60) (Cap.mul (Cap.of Hb.out.2 Hb.out.1) (Cap.of Hc.out.2 Hc.out.1)) (by decide)) (vS_cS _) (vS_cS _) (gcd_times HG.out.xy (by have := HZ0.out; omega))).mono ?_
        rintro e w7 ⟨rfl, h⟩
        replace hB := hB.trans (h.mono hB.size)
        clear h
        go_wp2_with fail
        refine (mul_v (a := (cS (g))) (b := (cS (z))) (x := g) (y := z) (z := g * z) w7 (hG.below hB) (Cap.size (k := 30) HC.out (by decide)) (Cap.size (k := 30) (Cap.of Hc.out.2 Hc.out.1) (by decide)) (vS_cS _) (vS_cS _) (rfl)).mono ?_
        rintro e w8 ⟨rfl, h⟩
        replace hB := hB.trans (h.mono hB.size)
        clear h
        obtain ⟨qx, hqx⟩ : ∃ q, Int.fdiv x g = q := ⟨_, rfl⟩
        go_wp2_with fail
        refine (div_v (a := a) (b := cS g) (x := x) (y := g) (q := qx) (r := 0) w8 (hG.below hB) (Nat.le_trans Ha.out.2 (by decide)) (Cap.size (k := 30) HC.out (by decide)) Ha.out.1 (vS_cS _) (Int.ne_of_gt HG.out.pos) hqx HG.out.rx).mono ?_
        rintro e w9 ⟨rfl, h⟩
        replace hB := hB.trans (h.mono hB.size)
        clear h
        rw [cS_zero]
        have HCx := Lib.hid (hqx ▸ cap_fdiv (Cap.of Ha.out.2 Ha.out.1) (Int.ne_of_gt HG.out.pos))
        obtain ⟨qy, hqy⟩ : ∃ q, Int.fdiv y g = q := ⟨_, rfl⟩
        go_wp2_with fail
        refine (div_v (a := b) (b := cS g) (x := y) (y := g) (q := qy) (r := 0) w9 (hG.below hB) (Nat.le_trans Hb.out.2 (by decide)) (Cap.size (k := 30) HC.out (by decide)) Hb.out.1 (vS_cS _) (Int.ne_of_gt HG.out.pos) hqy HG.out.ry).mono ?_
        rintro e w10 ⟨rfl, h⟩
        replace hB := hB.trans (h.mono hB.size)
        clear h
        rw [cS_zero]
        have HCy := Lib.hid (hqy ▸ cap_fdiv (Cap.of Hb.out.2 Hb.out.1) (Int.ne_of_gt HG.out.pos))
        have hone : (Int.gcd qx qy : Int) = 1 := by rw [← hqx, ← hqy]; exact HG.out.one
        have HONE := Lib.hid hone
        clear hone hqx hqy
        go_wp2_with fail
        refine (gcd_v (a := (cS (qx))) (b := (cS (qy))) (x := qx) (y := qy) (z := 1) w10 (hG.below hB) (Cap.size (k := 30) HCx.out (by decide)) (Cap.size (k := 30) HCy.out (by decide)) (vS_cS _) (vS_cS _) HONE.out).mono ?_
        rintro e w11 ⟨rfl, h⟩
        replace hB := hB.trans (h.mono hB.size)
        clear h
        rw [cS_one]
        go_wp2_with fail
        refine (mul_v (a := b) (b := c) (x := y) (y := z) (z := y * z) w11 (hG.below hB) (Nat.le_trans Hb.out.2 (by decide)) (Nat.le_trans Hc.out.2 (by decide)) Hb.out.1 Hc.out.1 (rfl)).mono ?_
        rintro e w12 ⟨rfl, h⟩
        replace hB := hB.trans (h.mono hB.size)
        clear h
        go_wp2_with fail
        refine (add_v (a := a) (b := (cS (y * z))) (x := x) (y := y * z) (z := x + (y * z)) w12 (hG.below hB) (Nat.le_trans Ha.out.2 (by decide)) (Cap.size (k := 60) (Cap.mul (Cap.of Hb.out.2 Hb.out.1) (Cap.of Hc.out.2 Hc.out.1)) (by decide)) Ha.out.1 (vS_cS _) (rfl)).mono ?_
        rintro e w13 ⟨rfl, h⟩
        replace hB := hB.trans (h.mono hB.size)
        clear h
        go_wp2_with fail
        refine (gcd_v (a := (cS (x + (y * z)))) (b := b) (x := x + (y * z)) (y := y) (z := g) w13 (hG.below hB) (Cap.size (k := 61) (Cap.add (Cap.mono (Cap.of Ha.out.2 Ha.out.1) (by decide) : Cap 60 _) (Cap.mul (Cap.of Hb.out.2 Hb.out.1) (Cap.of Hc.out.2 Hc.out.1))) (by decide)) (Nat.le_trans Hb.out.2 (by decide)) (vS_cS _) Hb.out.1 (gcd_plus HG.out.xy)).mono ?_
        rintro e w14 ⟨rfl, h⟩
        replace hB := hB.trans (h.mono hB.size)
        clear h
        go_wp2_with fail
        refine (awake_any w14 (hG.below hB)).mono ?_
        rintro e w15 ⟨rfl, h⟩
        replace hB := hB.trans (h.mono hB.size)
        clear h
        go_wp2_with fail
        go_ret
        exact ⟨rfl, hB⟩
    · have hxe := cS_isEmpty_ne x0
      have HX0 := Lib.hid x0
      clear x0
      refine (canonical_v (a := a) (x := x) (z := x) w3 (Nat.le_trans Ha.out.2 (by decide)) Ha.out.1 rfl).mono ?_
      rintro e _ ⟨rfl, rfl⟩
      go_wp2_with fail
      refine (canonical_v (a := c) (x := z) (z := z) w3 (Nat.le_trans Hc.out.2 (by decide)) Hc.out.1 rfl).mono ?_
      rintro e _ ⟨rfl, rfl⟩
      go_wp2_with fail
      by_cases z0 : z < 0
      · have HZ0 := Lib.hid z0
        clear z0
        refine (compare_v (a := cS z) (b := ⟨#[]⟩) (x := z) (y := 0) (z := -1) w3 (Cap.size (k := 30) (Cap.of Hc.out.2 Hc.out.1) (by decide)) (by decide) (vS_cS _) vS_nil (cmp3_lt HZ0.out)).mono ?_
        rintro e w4 ⟨rfl, h⟩
        replace hB := hB.trans (h.mono hB.size)
        clear h
        go_wp2_with fail
        refine (neg_v (a := (cS (z))) (x := z) (z := -z) w4 (Cap.size (k := 30) (Cap.of Hc.out.2 Hc.out.1) (by decide)) (vS_cS _) (rfl)).mono ?_
        rintro e _ ⟨rfl, rfl⟩
        go_wp2_with fail
        refine (mul_v (a := a) (b := c) (x := x) (y := z) (z := x * z) w4 (hG.below hB) (Nat.le_trans Ha.out.2 (by decide)) (Nat.le_trans Hc.out.2 (by decide)) Ha.out.1 Hc.out.1 (rfl)).mono ?_
        rintro e w5 ⟨rfl, h⟩
        replace hB := hB.trans (h.mono hB.size)
        clear h
        go_wp2_with fail
        refine (mul_v (a := b) (b := c) (x := y) (y := z) (z := y * z) w5 (hG.below hB) (Nat.le_trans Hb.out.2 (by decide)) (Nat.le_trans Hc.out.2 (by decide)) Hb.out.1 Hc.out.1 (rfl)).mono ?_
        rintro e w6 ⟨rfl, h⟩
        replace hB := hB.trans (h.mono hB.size)
        clear h
        go_wp2_with fail
        refine (gcd_v (a := (cS (x * z))) (b := (cS (y * z))) (x := x * z) (y := y * z) (z := g * (-z)) w6 (hG.below hB) (Cap.size (k := 60) (Cap.mul (Cap.of Ha.out.2 Ha.out.1) (Cap.of Hc.out.2 Hc.out.1)) (by decide)) (Cap.size (k := 60) (Cap.mul (Cap.of Hb.out.2 Hb.out.1) (Cap.of Hc.out.2 Hc.out.1)) (by decide)) (vS_cS _) (vS_cS _) (gcd_times HG.out.xy (by have := HZ0.out; omega))).mono ?_
        rintro e w7 ⟨rfl, h⟩
        replace hB := hB.trans (h.mono hB.size)
        clear h
        go_wp2_with fail
        refine (mul_v (a := (cS (g))) (b := (cS (-z))) (x := g) (y := -z) (z := g * (-z)) w7 (hG.below hB) (Cap.size (k := 30) HC.out (by decide)) (Cap.size (k := 30) (Cap.neg (Cap.of Hc.out.2 Hc.out.1)) (by decide)) (vS_cS _) (vS_cS _) (rfl)).mono ?_
        rintro e w8 ⟨rfl, h⟩
        replace hB := hB.trans (h.mono hB.size)
        clear h
        obtain ⟨qx, hqx⟩ : ∃ q, Int.fdiv x g = q := ⟨_, rfl⟩
        go_wp2_with fail
        refine (div_v (a := a) (b := cS g) (x := x) (y := g) (q := qx) (r := 0) w8 (hG.below hB) (Nat.le_trans Ha.out.2 (by decide)) (Cap.size (k := 30) HC.out (by decide)) Ha.out.1 (vS_cS _) (Int.ne_of_gt HG.out.pos) hqx HG.out.rx).mono ?_
        rintro e w9 ⟨rfl, h⟩
        replace hB := hB.trans (h.mono hB.size)
        clear h
        rw [cS_zero]
        have HCx := Lib.hid (hqx ▸ cap_fdiv (Cap.of Ha.out.2 Ha.out.1) (Int.ne_of_gt HG.out.pos))
        obtain ⟨qy, hqy⟩ : ∃ q, Int.fdiv y g = q := ⟨_, rfl⟩
        go_wp2_with fail
        refine (div_v (a := b) (b := cS g) (x := y) (y := g) (q := qy) (r := 0) w9 (hG.below hB) (Nat.le_trans Hb.out.2 (by decide)) (Cap.size (k := 30) HC.out (by decide)) Hb.out.1 (vS_cS _) (Int.ne_of_gt HG.out.pos) hqy HG.out.ry).mono ?_
        rintro e w10 ⟨rfl, h⟩
        replace hB := hB.trans (h.mono hB.size)
        clear h
        rw [cS_zero]
        have HCy := Lib.hid (hqy ▸ cap_fdiv (Cap.of Hb.out.2 Hb.out.1) (Int.ne_of_gt HG.out.pos))
        have hone : (Int.gcd qx qy : Int) = 1 := by rw [← hqx, ← hqy]; exact HG.out.one
        have HONE := Lib.hid hone
        clear hone hqx hqy
        go_wp2_with fail
        refine (gcd_v (a := (cS (qx))) (b := (cS (qy))) (x := qx) (y := qy) (z := 1) w10 (hG.below hB) (Cap.size (k := 30) HCx.out (by decide)) (Cap.size (k := 30) HCy.out (by decide)) (vS_cS _) (vS_cS _) HONE.out).mono ?_
        rintro e w11 ⟨rfl, h⟩
        replace hB := hB.trans (h.mono hB.size)
        clear h
        rw [cS_one]
        go_wp2_with fail
        refine (mul_v (a := b) (b := c) (x := y) (y := z) (z := y * z) w11 (hG.below hB) (Nat.le_trans Hb.out.2 (by decide)) (Nat.le_trans Hc.out.2 (by decide)) Hb.out.1 Hc.out.1 (rfl)).mono ?_
        rintro e w12 ⟨rfl, h⟩
        replace hB := hB.trans (h.mono hB.size)
        clear h
        go_wp2_with fail
        refine (add_v (a := a) (b := (cS (y * z))) (x := x) (y := y * z) (z := x + (y * z)) w12 (hG.below hB) (Nat.le_trans Ha.out.2 (by decide)) (Cap.size (k := 60) (Cap.mul (Cap.of Hb.out.2 Hb.out.1) (Cap.of Hc.out.2 Hc.out.1)) (by decide)) Ha.out.1 (vS_cS _) (rfl)).mono ?_
        rintro e w13 ⟨rfl, h⟩
        replace hB := hB.trans (h.mono hB.size)
        clear h
        go_wp2_with fail
        refine (gcd_v (a := (cS (x + (y * z)))) (b := b) (x := x + (y * z)) (y := y) (z := g) w13 (hG.below hB) (Cap.size (k := 61) (Cap.add (Cap.mono (Cap.of Ha.out.2 Ha.out.1) (by decide) : Cap 60 _) (Cap.mul (Cap.of Hb.out.2 Hb.out.1) (Cap.of Hc.out.2 Hc.out.1))) (by decide)) (Nat.le_trans Hb.out.2 (by decide)) (vS_cS _) Hb.out.1 (gcd_plus HG.out.xy)).mono ?_
        rintro e w14 ⟨rfl, h⟩
        replace hB := hB.trans (h.mono hB.size)
        clear h
        go_wp2_with fail
        refine (awake_any w14 (hG.below hB)).mono ?_
        rintro e w15 ⟨rfl, h⟩
        replace hB := hB.trans (h.mono hB.size)
        clear h
        go_wp2_with fail
        go_ret
        exact ⟨rfl, hB⟩
      · have HZ0 := Lib.hid z0
        clear z0
        obtain ⟨s, hs⟩ : ∃ s, cmp3 z 0 = s := ⟨_, rfl⟩
        have hs0 : 0 ≤ s := by rw [← hs]; have := HZ0.out; unfold cmp3; rw [if_neg this]; split <;> omega
        refine (compare_v (a := cS z) (b := ⟨#[]⟩) (x := z) (y := 0) (z := s) w3 (Cap.size (k := 30) (Cap.of Hc.out.2 Hc.out.1) (by decide)) (by decide) (vS_cS _) vS_nil hs).mono ?_
        rintro e w4 ⟨rfl, h⟩
        replace hB := hB.trans (h.mono hB.size)
        clear h
        go_wp2_with fail
        refine (mul_v (a := a) (b := c) (x := x) (y := z) (z := x * z) w4 (hG.below hB) (Nat.le_trans Ha.out.2 (by decide)) (Nat.le_trans Hc.out.2 (by decide)) Ha.out.1 Hc.out.1 (rfl)).mono ?_
        rintro e w5 ⟨rfl, h⟩
        replace hB := hB.trans (h.mono hB.size)
        clear h
        go_wp2_with fail
        refine (mul_v (a := b) (b := c) (x := y) (y := z) (z := y * z) w5 (hG.below hB) (Nat.le_trans Hb.out.2 (by decide)) (Nat.le_trans Hc.out.2 (by decide)) Hb.out.1 Hc.out.1 (rfl)).mono ?_
        rintro e w6 ⟨rfl, h⟩
        replace hB := hB.trans (h.mono hB.size)
        clear h
        go_wp2_with fail
        refine (gcd_v (a := (cS (x * z))) (b := (cS (y * z))) (x := x * z) (y := y * z) (z := g * z) w6 (hG.below hB) (Cap.size (k := 60) (Cap.mul (Cap.of Ha.out.2 Ha.out.1) (Cap.of Hc.out.2 Hc.out.1)) (by decide)) (Cap.size (k := 60) (Cap.mul (Cap.of Hb.out.2 Hb.out.1) (Cap.of Hc.out.2 Hc.out.1)) (by decide)) (vS_cS _) (vS_cS _) (gcd_times HG.out.xy (by have := HZ0.out; omega))).mono ?_
        rintro e w7 ⟨rfl, h⟩
        replace hB := hB.trans (h.mono hB.size)
        clear h
        go_wp2_with fail
        refine (mul_v (a := (cS (g))) (b := (cS (z))) (x := g) (y := z) (z := g * z) w7 (hG.below hB) (Cap.size (k := 30) HC.out (by decide)) (Cap.size (k := 30) (Cap.of Hc.out.2 Hc.out.1) (by decide)) (vS_cS _) (vS_cS _) (rfl)).mono ?_
        rintro e w8 ⟨rfl, h⟩
        replace hB := hB.trans (h.mono hB.size)
        clear h
        obtain ⟨qx, hqx⟩ : ∃ q, Int.fdiv x g = q := ⟨_, rfl⟩
        go_wp2_with fail
        refine (div_v (a := a) (b := cS g) (x := x) (y := g) (q := qx) (r := 0) w8 (hG.below hB) (Nat.le_trans Ha.out.2 (by decide)) (Cap.size (k := 30) HC.out (by decide)) Ha.out.1 (vS_cS _) (Int.ne_of_gt HG.out.pos) hqx HG.out.rx).mono ?_
        rintro e w9 ⟨rfl, h⟩
        replace hB := hB.trans (h.mono hB.size)
        clear h
        rw [cS_zero]
        have HCx := Lib.hid (hqx ▸ cap_fdiv (Cap.of Ha.out.2 Ha.out.1) (Int.ne_of_gt HG.out.pos))
        obtain ⟨qy, hqy⟩ : ∃ q, Int.fdiv y g = q := ⟨_, rfl⟩
        go_wp2_with fail
        refine (div_v (a := b) (b := cS g) (x := y) (y := g) (q := qy) (r := 0) w9 (hG.below hB) (Nat.le_trans Hb.out.2 (by decide)) (Cap.size (k := 30) HC.out (by decide)) Hb.out.1 (vS_cS _) (Int.ne_of_gt HG.out.pos) hqy HG.out.ry).mono ?_
        rintro e w10 ⟨rfl, h⟩
        replace hB := hB.trans (h.mono hB.size)
        clear h
        rw [cS_zero]
        have HCy := Lib.hid (hqy ▸ cap_fdiv (Cap.of Hb.out.2 Hb.out.1) (Int.ne_of_gt HG.out.pos))
        have hone : (Int.gcd qx qy : Int) = 1 := by rw [← hqx, ← hqy]; exact HG.out.one
        have HONE := Lib.hid hone
        clear hone hqx hqy
        go_wp2_with fail
        refine (gcd_v (a := (cS (qx))) (b := (cS (qy))) (x := qx) (y := qy) (z := 1) w10 (hG.below hB) (Cap.size (k := 30) HCx.out (by decide)) (Cap.size (k := 30) HCy.out (by decide)) (vS_cS _) (vS_cS _) HONE.out).mono ?_
        rintro e w11 ⟨rfl, h⟩
        replace hB := hB.trans (h.mono hB.size)
        clear h
        rw [cS_one]
        go_wp2_with fail
        refine (mul_v (a := b) (b := c) (x := y) (y := z) (z := y * z) w11 (hG.below hB) (Nat.le_trans Hb.out.2 (by decide)) (Nat.le_trans Hc.out.2 (by decide)) Hb.out.1 Hc.out.1 (rfl)).mono ?_
        rintro e w12 ⟨rfl, h⟩
        replace hB := hB.trans (h.mono hB.size)
        clear h
        go_wp2_with fail
        refine (add_v (a := a) (b := (cS (y * z))) (x := x) (y := y * z) (z := x + (y * z)) w12 (hG.below hB) (Nat.le_trans Ha.out.2 (by decide)) (Cap.size (k := 60) (Cap.mul (Cap.of Hb.out.2 Hb.out.1) (Cap.of Hc.out.2 Hc.out.1)) (by decide)) Ha.out.1 (vS_cS _) (rfl)).mono ?_
        rintro e w13 ⟨rfl, h⟩
        replace hB := hB.trans (h.mono hB.size)
        clear h
        go_wp2_with fail
        refine (gcd_v (a := (cS (x + (y * z)))) (b := b) (x := x + (y * z)) (y := y) (z := g) w13 (hG.below hB) (Cap.size (k := 61) (Cap.add (Cap.mono (Cap.of Ha.out.2 Ha.out.1) (by decide) : Cap 60 _) (Cap.mul (Cap.of Hb.out.2 Hb.out.1) (Cap.of Hc.out.2 Hc.out.1))) (by decide)) (Nat.le_trans Hb.out.2 (by decide)) (vS_cS _) Hb.out.1 (gcd_plus HG.out.xy)).mono ?_
        rintro e w14 ⟨rfl, h⟩
        replace hB := hB.trans (h.mono hB.size)
        clear h
        go_wp2_with fail
        refine (awake_any w14 (hG.below hB)).mono ?_
        rintro e w15 ⟨rfl, h⟩
        replace hB := hB.trans (h.mono hB.size)
        clear h
        go_wp2_with fail
        go_ret
        exact ⟨rfl, hB⟩

end Go.Proofs.YtaopneanfflbcaaDoor
