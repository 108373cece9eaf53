/- The program's layer 2: value, lowest, pack, canonical: the walks. -/
import Derived.Test.YtldohkfomdcpoaaDoorFwa
namespace Go.Proofs.YtldohkfomdcpoaaDoor
open Go.RowKit Fra

theorem RatPost.weaken {w w0 : World} {p : Int × Int} {k : Nat} {a b : ByteArray} (h1 : vS a = p.1) (h2 : vS b = p.2) (h3 : a.size ≤ k) (h4 : b.size ≤ k) (hb : Below w.heap.size w w0) :
    RatPost w p k (.returned (.agg #[.string a, .string b])) w0 := ⟨a, b, rfl, h1, h2, h3, h4, hb⟩

set_option maxRecDepth 100000 in
set_option maxHeartbeats 1000000 in
theorem fValue_any (n d : ByteArray) (w : World) (k : Nat) (hn : n.size + 1 ≤ k) (hd : d.size + 1 ≤ k) (hk : k ≤ 4294967295) :
    Calls Tryd.prog 32 #[.agg #[.string n, .string d]] w (RatPost w (raw n d) k) := by
  obtain ⟨W0, hW0⟩ : ∃ W0, W0 = (w.alloc (.cells #[.string n, .string d] 24)).alloc (.cells #[.string ⟨#[]⟩, .string ⟨#[]⟩] 54) := ⟨_, rfl⟩
  have hB0 : Below w.heap.size w W0 := by rw [hW0]; exact below_two _ _ _
  have hX : Box1 W0 w.heap.size 24 54 n d := by rw [hW0]; exact Box1.made _ _ _ _ _
  obtain ⟨c1, c2, _, _⟩ := hX.x.cells
  by_cases h0 : vS d = 0
  · have HR := Lib.hid (show raw n d = (vS n, 1) by unfold raw; rw [h0]; rfl)
    have HD := Lib.hid (decide_eq_true h0)
    clear h0
    go_enter Tryd.func32, Tryd.ntmps32
    go_wp2_with fail
    rw [← hW0]
    clear hW0
    refine (fZero_any d _ (by omega)).mono ?_
    rintro _ _ ⟨rfl, rfl⟩
    rw [HD.out]
    go_wp2_with fail
    refine (fWhole_any n _).mono ?_
    rintro _ w1 ⟨rfl, hB1⟩
    have hX1 := hX.below hB1
    obtain ⟨_, _, f1, f2⟩ := hX1.r.cells
    obtain ⟨g1, g2, _, _⟩ := hX1.r.cells
    have hB := hB0.trans (hB1.mono hB0.size)
    clear hB1 hB0
    go_wp2_with fail
    obtain ⟨k0, k1, _, _⟩ := (hX1.r.put n ⟨#[49]⟩).cells
    exact bodyPost_ret (v := .agg #[.string n, .string ⟨#[49]⟩]) (by simp [results, Tryd.results32, go_sem, k0, k1]) rfl (RatPost.weaken (by rw [HR.out]) (by rw [HR.out]; exact vS_one) (by omega) (by show 1 ≤ k; omega) (below_put hB (by omega) _ _))
  · have HD := Lib.hid (decide_eq_false h0)
    have H0 := Lib.hid h0
    clear h0
    go_enter Tryd.func32, Tryd.ntmps32
    go_wp2_with fail
    rw [← hW0]
    clear hW0
    refine (fZero_any d _ (by omega)).mono ?_
    rintro _ _ ⟨rfl, rfl⟩
    rw [HD.out]
    go_wp2_with fail
    refine (fQuotient_any n d _ k hn hd hk H0.out).mono ?_
    rintro _ w1 ⟨a, b, rfl, v1, v2, s1, s2, hB1⟩
    have HV1 := Lib.hid v1
    have HV2 := Lib.hid v2
    have hX1 := hX.below hB1
    obtain ⟨_, _, f1, f2⟩ := hX1.r.cells
    obtain ⟨g1, g2, _, _⟩ := hX1.r.cells
    have hB := hB0.trans (hB1.mono hB0.size)
    clear hB1 hB0 v1 v2
    go_wp2_with fail
    obtain ⟨k0, k1, _, _⟩ := (hX1.r.put a b).cells
    exact bodyPost_ret (v := .agg #[.string a, .string b]) (by simp [results, Tryd.results32, go_sem, k0, k1]) rfl (RatPost.weaken HV1.out HV2.out s1 s2 (below_put hB (by omega) _ _))

theorem ediv_fdiv {a g : Int} (h : 0 < g) : Int.fdiv a g = a / g := Int.fdiv_eq_ediv_of_nonneg a (by omega)

set_option maxRecDepth 100000 in
set_option maxHeartbeats 1000000 in
theorem fLowest_v {a b : ByteArray} {x y : Int} (w : World) (hG : Ground w) (ha : a.size ≤ 4294967294) (hb : b.size ≤ 4294967294) (hx : vS a = x) (hy : vS b = y) (h0 : 0 < y) :
    Calls Tryd.prog 41 #[.agg #[.string a, .string b]] w fun e w' => e = .returned (.agg #[.string (cS (red x y).1), .string (cS (red x y).2)]) ∧ Below w.heap.size w w' := by
  obtain ⟨W0, hW0⟩ : ∃ W0, W0 = (w.alloc (.cells #[.string a, .string b] 54)).alloc (.cells #[.string ⟨#[]⟩, .string ⟨#[]⟩] 54) := ⟨_, rfl⟩
  have hB0 : Below w.heap.size w W0 := by rw [hW0]; exact below_two _ _ _
  have hX : Box1 W0 w.heap.size 54 54 a b := by rw [hW0]; exact Box1.made _ _ _ _ _
  obtain ⟨c1, c2, _, _⟩ := hX.x.cells
  have hg := gcd_pos (n := x) h0
  have hgs : (cS (Int.gcd x y : Int)).size ≤ 4294967295 := by
    have h1 : Int.gcd x y ≤ y.natAbs := Int.gcd_le_natAbs_right x (by omega)
    have h2 := vS_lt b
    rw [hy] at h2
    have := cS_size (z := (Int.gcd x y : Int)) (k := b.size) (by omega)
    omega
  have HX := Lib.hid hx
  have HY := Lib.hid hy
  have HG := Lib.hid hg
  have HS := Lib.hid hgs
  clear hx hy hg hgs h0
  go_enter Tryd.func41, Tryd.ntmps41
  go_wp2_with fail
  rw [← hW0]
  clear hW0
  refine (gcd_v (x := x) (y := y) _ (hG.below hB0) (by omega) (by omega) HX.out HY.out rfl).mono ?_
  rintro _ w1 ⟨rfl, hB1⟩
  have hX1 := hX.below hB1
  have hB := hB0.trans (hB1.mono hB0.size)
  obtain ⟨d1, d2, _, _⟩ := hX1.x.cells
  clear hB1 hB0 c1 c2
  go_wp2_with fail
  refine (div_v (x := x) (y := (Int.gcd x y : Int)) (q := (red x y).1) _ (hG.below hB) (by omega) HS.out HX.out (vS_cS _) (by have := HG.out; omega) (ediv_fdiv HG.out) rfl).mono ?_
  rintro _ w2 ⟨rfl, hB2⟩
  have hX2 := hX1.below hB2
  have hB' := hB.trans (hB2.mono hB.size)
  obtain ⟨e1, e2, _, _⟩ := hX2.x.cells
  clear hB2 hB d1 d2
  go_wp2_with fail
  refine (div_v (x := y) (y := (Int.gcd x y : Int)) (q := (red x y).2) _ (hG.below hB') (by omega) HS.out HY.out (vS_cS _) (by have := HG.out; omega) (ediv_fdiv HG.out) rfl).mono ?_
  rintro _ w3 ⟨rfl, hB3⟩
  have hX3 := hX2.below hB3
  have hB := hB'.trans (hB3.mono hB'.size)
  obtain ⟨f1, f2, f3, f4⟩ := hX3.r.cells
  clear hB3 hB' e1 e2
  go_wp2_with fail
  obtain ⟨k0, k1, _, _⟩ := (hX3.r.put (cS (red x y).1) (cS (red x y).2)).cells
  exact bodyPost_ret (v := .agg #[.string (cS (red x y).1), .string (cS (red x y).2)]) (by simp [results, Tryd.results41, go_sem, k0, k1]) rfl ⟨rfl, below_put hB (by omega) _ _⟩

set_option maxRecDepth 100000 in
set_option maxHeartbeats 1000000 in
theorem fPack_any (p : Int × Int) (w : World) :
    Calls Tryd.prog 47 #[.agg #[.string (cS p.1), .string (cS p.2)]] w (FPost w p) := by
  obtain ⟨n, hn⟩ : ∃ n, n = cS p.1 := ⟨_, rfl⟩
  by_cases h0 : p.2 = 1
  · have HD := Lib.hid (show cD p.2 = ⟨#[]⟩ by rw [h0, cD_one])
    rw [show cS p.2 = ⟨#[49]⟩ by rw [h0, cS_one], ← hn]
    have HN := Lib.hid hn
    clear h0 hn
    go_enter Tryd.func47, Tryd.ntmps47
    go_wp2_with fail
    exact bodyPost_ret (v := .agg #[.string n, .string ⟨#[]⟩]) (by simp [results, Tryd.results47, go_sem]) rfl ⟨by rw [HD.out, ← HN.out], below_two _ _ _⟩
  · have HD := Lib.hid (show cD p.2 = cS p.2 by unfold cD; rw [if_neg h0])
    have h1 : ((cS p.2).toList == [49]) = false := by rw [eq_one]; exact decide_eq_false h0
    obtain ⟨m, hm⟩ : ∃ m, m = cS p.2 := ⟨_, rfl⟩
    rw [← hm] at h1
    rw [← hn, ← hm]
    have HN := Lib.hid hn
    have HM := Lib.hid hm
    clear h0 hn hm
    go_enter Tryd.func47, Tryd.ntmps47
    go_wp2_with fail
    exact bodyPost_ret (v := .agg #[.string n, .string m]) (by simp [results, Tryd.results47, go_sem]) rfl ⟨by rw [HD.out, ← HN.out, ← HM.out], below_two _ _ _⟩

set_option maxRecDepth 100000 in
set_option maxHeartbeats 1000000 in
theorem fCanonical_v {a b : ByteArray} {x y : Int} (w : World) (hG : Ground w) (ha : a.size ≤ 4294967294) (hb : b.size ≤ 4294967294) (hx : vS a = x) (hy : vS b = y) (h0 : 0 < y) :
    Calls Tryd.prog 30 #[.agg #[.string a, .string b]] w (FPost w (red x y)) := by
  obtain ⟨W0, hW0⟩ : ∃ W0, W0 = (w.alloc (.cells #[.string a, .string b] 54)).alloc (.cells #[.string ⟨#[]⟩, .string ⟨#[]⟩] 24) := ⟨_, rfl⟩
  have hB0 : Below w.heap.size w W0 := by rw [hW0]; exact below_two _ _ _
  have hX : Box1 W0 w.heap.size 54 24 a b := by rw [hW0]; exact Box1.made _ _ _ _ _
  obtain ⟨c1, c2, _, _⟩ := hX.x.cells
  have HX := Lib.hid hx
  have HY := Lib.hid hy
  have H0 := Lib.hid h0
  clear hx hy h0
  go_enter Tryd.func30, Tryd.ntmps30
  go_wp2_with fail
  rw [← hW0]
  clear hW0
  refine (fLowest_v _ (hG.below hB0) ha hb HX.out HY.out H0.out).mono ?_
  rintro _ w1 ⟨rfl, hB1⟩
  have hX1 := hX.below hB1
  have hB := hB0.trans (hB1.mono hB0.size)
  clear hB1 hB0 c1 c2
  go_wp2_with fail
  refine (fPack_any _ w1).mono ?_
  rintro _ w2 ⟨rfl, hB2⟩
  have hX2 := hX1.below hB2
  have hB' := hB.trans (hB2.mono hB.size)
  obtain ⟨f1, f2, f3, f4⟩ := hX2.r.cells
  clear hB2 hB
  go_wp2_with fail
  obtain ⟨k0, k1, _, _⟩ := (hX2.r.put (cS (red x y).1) (cD (red x y).2)).cells
  exact bodyPost_ret (v := .agg #[.string (cS (red x y).1), .string (cD (red x y).2)]) (by simp [results, Tryd.results30, go_sem, k0, k1]) rfl ⟨rfl, below_put hB' (by omega) _ _⟩

end Go.Proofs.YtldohkfomdcpoaaDoor
