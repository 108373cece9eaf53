/- The reference implementation of layer 2: one, zero, exact, Raw, reduced, Canonical: the walks. -/
import Derived.Test.YthhihdihkddakaaGreatDoorMD
import Derived.Test.YthhihdihkddakaaGreatDoorQD
import Derived.Test.YthhihdihkddakaaGreatDoorQA
namespace Go.Proofs.YthhihdihkddakaaGreatDoor
open Go.RowKit Fra

theorem qOne (w : World) : Calls Tryz.prog 109 #[] w fun e w' => e = .returned (.string ⟨#[49]⟩) ∧ w = w' := by
  go_enter Tryz.func109, Tryz.ntmps109
  go_wp2_with fail
  refine (rOf_any 1 w (by decide) (by decide)).mono ?_
  rintro _ _ ⟨rfl, rfl⟩
  rw [cS_one]
  go_wp2_with fail
  go_ret
  exact ⟨rfl, rfl⟩

theorem qZero {s : ByteArray} {x : Int} (w : World) (hs : s.size ≤ 4294967296) (hx : vS s = x) :
    Calls Tryz.prog 117 #[.string s] w fun e w' => e = .returned (.bool (decide (x = 0))) ∧ w = w' := by
  by_cases h0 : x = 0
  · have HC := Lib.hid (show cmp3 (vS s) (vS ⟨#[]⟩) = 0 by rw [vS_nil, hx, h0]; rfl)
    have HD := Lib.hid (decide_eq_true h0)
    clear h0 hx
    go_enter Tryz.func117, Tryz.ntmps117
    go_wp2_with fail
    refine (rCompare_any s ⟨#[]⟩ w hs (by decide)).mono ?_
    rintro _ _ ⟨rfl, rfl⟩
    rw [HC.out]
    go_wp2_with fail
    go_ret
    exact ⟨by rw [HD.out]; rfl, rfl⟩
  · obtain ⟨c, hc⟩ : ∃ c, cmp3 (vS s) (vS ⟨#[]⟩) = c := ⟨_, rfl⟩
    have hcc : (c == 0) = false := by
      have : c ≠ 0 := by rw [← hc, vS_nil, hx]; intro e; exact h0 ((cmp3_zero _ _).1 e)
      simpa using this
    have HC := Lib.hid hc
    have HD := Lib.hid (decide_eq_false h0)
    clear h0 hx hc
    go_enter Tryz.func117, Tryz.ntmps117
    go_wp2_with fail
    refine (rCompare_any s ⟨#[]⟩ w hs (by decide)).mono ?_
    rintro _ _ ⟨rfl, rfl⟩
    rw [HC.out]
    go_wp2_with fail
    go_ret
    exact ⟨by rw [HD.out]; rfl, rfl⟩

theorem qExact {a b : ByteArray} {x y z : Int} (w : World) (ha : a.size ≤ 1000) (hb : b.size ≤ 1000) (hx : vS a = x) (hy : vS b = y) (h0 : y ≠ 0) (hz : Int.fdiv x y = z) :
    Calls Tryz.prog 152 #[.string a, .string b] w (StrPost w z) := by
  have hd := rDiv_any a b w ha hb (by rw [hy]; exact h0)
  rw [hx, hy] at hd
  have HD := Lib.hid hd
  have HZ := Lib.hid hz
  clear hd hz hx hy
  go_enter Tryz.func152, Tryz.ntmps152
  go_wp2_with fail
  refine HD.out.mono ?_
  rintro _ w1 ⟨rfl, hB⟩
  rw [HZ.out]
  go_wp2_with fail
  go_ret
  exact ⟨rfl, hB⟩

/-- returns two strings with these values, as two results -/
def PairPost (w : World) (p : Int × Int) (k : Nat) (e : Ending) (w' : World) : Prop :=
  ∃ a b, e = .returned (.tuple #[.string a, .string b]) ∧ vS a = p.1 ∧ vS b = p.2 ∧ a.size ≤ k ∧ b.size ≤ k ∧ Below w.heap.size w w'

set_option maxRecDepth 100000 in
set_option maxHeartbeats 2000000 in
theorem qRaw (n d : ByteArray) (w : World) (k : Nat) (hG : Ground w) (hn : n.size + 1 ≤ k) (hd : d.size + 1 ≤ k) (hk : k ≤ 4294967295) :
    Calls Tryz.prog 107 #[.agg #[.string n, .string d]] w (PairPost w (raw n d) k) := by
  obtain ⟨W0, hW0⟩ : ∃ W0, W0 = w.alloc (.cells #[.string n, .string d] 36) := ⟨_, rfl⟩
  have hS : StX w W0 36 n d := by rw [hW0]; exact StX.made hG _ _ _
  obtain ⟨c0, c1, _, _⟩ := hS.x.cells
  by_cases h0 : vS d = 0
  · have HR := Lib.hid (show raw n d = (vS n, 1) by unfold raw; rw [h0]; rfl)
    have HD := Lib.hid h0
    clear h0
    go_enter Tryz.func107, Tryz.ntmps107
    go_wp2_with fail
    rw [← hW0]
    clear hW0
    refine (qZero (x := 0) W0 (by omega) HD.out).mono ?_
    rintro _ _ ⟨rfl, rfl⟩
    go_wp2_with fail
    go_region_held3 (fun w' => w'.cell? ⟨w.heap.size, 0, none⟩ = some (.string n) ∧ w'.cell? ⟨w.heap.size, 1, none⟩ = some (.string d))
      (go_keep)
      ((go_at_call 109; (with_reducible refine Calls.mono (qOne _) ?_); (rintro _ _ ⟨rfl, rfl⟩)))
    all_goals go_wp2_with fail
    all_goals go_ret2
    all_goals exact ⟨n, ⟨#[49]⟩, rfl, by rw [HR.out], by rw [HR.out]; exact vS_one, by omega, by show 1 ≤ k; omega, by first | exact hS.below | exact hS.drew.below | exact (hS.drewN _).below⟩
  · by_cases hl : vS d < 0
    · obtain ⟨e, he⟩ : ∃ e, e = cS (-vS n) := ⟨_, rfl⟩
      obtain ⟨g, hg⟩ : ∃ g, g = cS (-vS d) := ⟨_, rfl⟩
      have s1 : e.size ≤ k := by rw [he]; have := cS_size (z := -vS n) (k := n.size) (by rw [Int.natAbs_neg]; exact vS_lt n); omega
      have s2 : g.size ≤ k := by rw [hg]; have := cS_size (z := -vS d) (k := d.size) (by rw [Int.natAbs_neg]; exact vS_lt d); omega
      have HF := Lib.hid (show vS e = -vS n ∧ vS g = -vS d by rw [he, hg, vS_cS, vS_cS]; exact ⟨rfl, rfl⟩)
      have HE := Lib.hid he
      have HH := Lib.hid hg
      have HC := Lib.hid (show cmp3 (vS d) (vS ⟨#[]⟩) = -1 by rw [vS_nil]; exact cmp3_lt hl)
      have HR := Lib.hid (rawP_of_neg (n := vS n) hl)
      have HZ := Lib.hid (decide_eq_false h0)
      clear he hg h0 hl
      go_enter Tryz.func107, Tryz.ntmps107
      go_wp2_with fail
      rw [← hW0]
      clear hW0
      refine (qZero (x := vS d) W0 (by omega) rfl).mono ?_
      rintro _ _ ⟨rfl, rfl⟩
      rw [HZ.out]
      go_wp2_with fail
      refine (rCompare_any d ⟨#[]⟩ W0 (by omega) (by decide)).mono ?_
      rintro _ _ ⟨rfl, rfl⟩
      rw [HC.out]
      go_wp2_with fail
      go_region_held3 (fun w' => w'.cell? ⟨w.heap.size, 0, none⟩ = some (.string n) ∧ w'.cell? ⟨w.heap.size, 1, none⟩ = some (.string d))
        (go_keep)
        ((go_at_call 61;
          (first
            | ((with_reducible refine Calls.mono (rNeg_any n _ (by omega)) ?_); (rintro _ _ ⟨rfl, rfl⟩); (rw [← HE.out]))
            | ((with_reducible refine Calls.mono (rNeg_any d _ (by omega)) ?_); (rintro _ _ ⟨rfl, rfl⟩); (rw [← HH.out])))))
      all_goals go_wp2_with fail
      all_goals go_ret2
      all_goals exact ⟨e, g, rfl, by show _ = (rawP (vS n) (vS d)).1; rw [HR.out]; exact HF.out.1, by show _ = (rawP (vS n) (vS d)).2; rw [HR.out]; exact HF.out.2, s1, s2, by first | exact hS.below | exact hS.drew.below | exact (hS.drewN _).below⟩
    · have HC := Lib.hid (show cmp3 (vS d) (vS ⟨#[]⟩) = 1 by rw [vS_nil]; exact cmp3_gt (by omega))
      have HR := Lib.hid (rawP_of_pos (n := vS n) (show (0 : Int) < vS d by omega))
      have HZ := Lib.hid (decide_eq_false h0)
      clear hl h0
      go_enter Tryz.func107, Tryz.ntmps107
      go_wp2_with fail
      rw [← hW0]
      clear hW0
      refine (qZero (x := vS d) W0 (by omega) rfl).mono ?_
      rintro _ _ ⟨rfl, rfl⟩
      rw [HZ.out]
      go_wp2_with fail
      refine (rCompare_any d ⟨#[]⟩ W0 (by omega) (by decide)).mono ?_
      rintro _ _ ⟨rfl, rfl⟩
      rw [HC.out]
      go_wp2_with fail
      go_region
      all_goals go_wp2_with fail
      all_goals go_ret2
      all_goals exact ⟨n, d, rfl, by show _ = (rawP (vS n) (vS d)).1; rw [HR.out], by show _ = (rawP (vS n) (vS d)).2; rw [HR.out], by omega, by omega, by first | exact hS.below | exact hS.drew.below | exact (hS.drewN _).below⟩

end Go.Proofs.YthhihdihkddakaaGreatDoor

/- The reference implementation of layer 2: reduced, Canonical, Check, New, Of, Parts: the walks. -/
namespace Go.Proofs.YthhihdihkddakaaGreatDoor
open Go.RowKit Fra

theorem red_nil {y : Int} (h : 0 < y) : cS (red 0 y).1 = ⟨#[]⟩ ∧ cD (red 0 y).2 = ⟨#[]⟩ := by rw [red_zero h]; exact ⟨cS_zero, cD_one⟩

set_option maxRecDepth 100000 in
set_option maxHeartbeats 2000000 in
theorem qReduced {n d : ByteArray} {x y : Int} (w : World) (hn : n.size ≤ 900) (hd : d.size ≤ 900) (hx : vS n = x) (hy : vS d = y) (h0 : 0 < y) :
    Calls Tryz.prog 110 #[.string n, .string d] w (FPost w (red x y)) := by
  obtain ⟨W0, hW0⟩ : ∃ W0, W0 = w.alloc (.cells #[.string ⟨#[]⟩, .string ⟨#[]⟩] 36) := ⟨_, rfl⟩
  have hB0 : Below w.heap.size w W0 := by rw [hW0]; exact (Below.refl _ _).alloc (Nat.le_refl _) _
  have hP : PairAt W0 w.heap.size 36 ⟨#[]⟩ ⟨#[]⟩ := by rw [hW0]; exact PairAt.made _ _ _ _
  by_cases hz : x = 0
  · have HX := Lib.hid hx
    have HZ := Lib.hid (decide_eq_true hz)
    have HN := Lib.hid (show cS (red x y).1 = ⟨#[]⟩ ∧ cD (red x y).2 = ⟨#[]⟩ by rw [hz]; exact red_nil h0)
    clear hz hx hy h0
    obtain ⟨c0, c1, c2, c3⟩ := hP.cells
    go_enter Tryz.func110, Tryz.ntmps110
    go_wp2_with fail
    rw [← hW0]
    clear hW0
    refine (qZero (x := x) W0 (by omega) HX.out).mono ?_
    rintro _ _ ⟨rfl, rfl⟩
    rw [HZ.out]
    go_wp2_with fail
    obtain ⟨k0, k1, _, _⟩ := (hP.put ⟨#[]⟩ ⟨#[]⟩).cells
    exact bodyPost_ret (v := .agg #[.string ⟨#[]⟩, .string ⟨#[]⟩]) (by simp [results, Tryz.results110, go_sem, k0, k1]) rfl ⟨by rw [HN.out.1, HN.out.2], below_put hB0 (Nat.le_refl _) _ _⟩
  · have hg := gcd_pos (n := x) h0
    have hgs : (cS (Int.gcd x y : Int)).size ≤ 1000 := by
      have h1 : Int.gcd x y ≤ y.natAbs := Int.gcd_le_natAbs_right x (by omega)
      have h2 := vS_lt d
      rw [hy] at h2
      have := cS_size (z := (Int.gcd x y : Int)) (k := d.size) (by omega)
      omega
    have HX := Lib.hid hx
    have HY := Lib.hid hy
    have HZ := Lib.hid (decide_eq_false hz)
    have HG := Lib.hid hg
    have HS := Lib.hid hgs
    have hcz := CapP.of_red (k := 900) h0 (Cap.of hn hx) (Cap.of hd hy)
    have HQS := Lib.hid (show (cS (red x y).2).size ≤ 901 by have := cS_size hcz.2; omega)
    have HQ1 := Lib.hid (show Int.fdiv x (Int.gcd x y : Int) = (red x y).1 from ediv_fdiv hg)
    have HQ2 := Lib.hid (show Int.fdiv y (Int.gcd x y : Int) = (red x y).2 from ediv_fdiv hg)
    have hrd : ∀ c, cmp3 (red x y).2 1 = c → (c == 0) = decide ((red x y).2 = 1) := by
      intro c hc
      subst hc
      by_cases h1 : (red x y).2 = 1
      · rw [h1]; rfl
      · rw [decide_eq_false h1]
        have : cmp3 (red x y).2 1 ≠ 0 := fun e => h1 ((cmp3_zero _ _).1 e)
        simpa using this
    have HRD := Lib.hid hrd
    clear hz hx hy hg hgs hcz hrd h0
    go_enter Tryz.func110, Tryz.ntmps110
    go_wp2_with fail
    rw [← hW0]
    clear hW0
    refine (qZero (x := x) W0 (by omega) HX.out).mono ?_
    rintro _ _ ⟨rfl, rfl⟩
    rw [HZ.out]
    go_wp2_with fail
    refine (show Calls _ _ _ W0 (StrPost W0 (Int.gcd x y : Int)) from by have := rGcd_any n d W0 hn hd; rwa [HX.out, HY.out] at this).mono ?_
    rintro _ w1 ⟨rfl, hB⟩
    have hP1 := hP.below hB
    have hB1 := hB0.trans (hB.mono hB0.size)
    clear hB hB0 hP
    go_wp2_with fail
    refine (qExact w1 (by omega) HS.out HX.out (vS_cS _) (by have := HG.out; omega) HQ1.out).mono ?_
    rintro _ w2 ⟨rfl, hB⟩
    have hP2 := hP1.below hB
    have hB2 := hB1.trans (hB.mono hB1.size)
    clear hB hB1 hP1
    go_wp2_with fail
    refine (qExact w2 (by omega) HS.out HY.out (vS_cS _) (by have := HG.out; omega) HQ2.out).mono ?_
    rintro _ w3 ⟨rfl, hB⟩
    have hP3 := hP2.below hB
    have hB3 := hB2.trans (hB.mono hB2.size)
    clear hB hB2 hP2
    go_upto_region 5 with fail
    obtain ⟨B, hBe⟩ : ∃ B, B = w3.heap.size := ⟨_, rfl⟩
    obtain ⟨u, hu⟩ : ∃ u, u = cS (red x y).1 := ⟨_, rfl⟩
    obtain ⟨v, hv⟩ : ∃ v, v = cS (red x y).2 := ⟨_, rfl⟩
    rw [← hu, ← hv]
    obtain ⟨W4, hW4⟩ : ∃ W4, W4 = w3.alloc (.cells #[.string u, .string v] 36) := ⟨_, rfl⟩
    have hX : PairAt W4 B 36 u v := by rw [hW4, hBe]; exact PairAt.made _ _ _ _
    have hP4 : PairAt W4 w.heap.size 36 ⟨#[]⟩ ⟨#[]⟩ := by rw [hW4]; exact hP3.alloc _
    have hB4 : Below w.heap.size w W4 := by rw [hW4]; exact hB3.alloc hB3.size _
    have hne : w.heap.size < B := by rw [hBe]; exact hP3.lt
    rw [← hBe, ← hW4]
    clear hW4 hBe hP3 hB3
    have hne1 : B ≠ w.heap.size := by omega
    obtain ⟨c0, c1, c2, c3⟩ := hX.cells
    obtain ⟨d0, d1, d2, d3⟩ := hP4.cells
    rw [← hv] at HQS
    have HV := Lib.hid (show vS v = (red x y).2 by rw [hv, vS_cS])
    have HU := Lib.hid hu
    have HVV := Lib.hid hv
    clear hu hv
    obtain ⟨c, hc⟩ : ∃ c, cmp3 (red x y).2 1 = c := ⟨_, rfl⟩
    have HC := Lib.hid (show cmp3 (vS v) (vS ⟨#[49]⟩) = c by rw [HV.out, vS_one]; exact hc)
    have hcc := HRD.out c hc
    have hsv : v.size ≤ 4294967296 := Nat.le_trans HQS.out (by decide)
    clear hc
    by_cases h1 : (red x y).2 = 1
    · rw [decide_eq_true h1] at hcc
      have HD := Lib.hid (show cD (red x y).2 = ⟨#[]⟩ by rw [h1, cD_one])
      clear h1
      go_region_held3 (fun w' => w'.cell? ⟨B, 0, none⟩ = some (.string u) ∧ w'.cell? ⟨B, 1, none⟩ = some (.string v))
        (go_keep)
        (first
          | (go_at_call 109; (with_reducible refine Calls.mono (qOne _) ?_); (rintro _ _ ⟨rfl, rfl⟩))
          | (go_at_call 73; (with_reducible refine Calls.mono (rCompare_any v ⟨#[49]⟩ _ hsv (by decide)) ?_); (rintro _ _ ⟨rfl, rfl⟩); (rw [HC.out])))
      all_goals obtain ⟨W5, hW5⟩ : ∃ W5, W5 = W4.drew := ⟨_, rfl⟩
      all_goals have hX5 : PairAt W5 B 36 u v := by rw [hW5]; exact hX
      all_goals have hP5 : PairAt W5 w.heap.size 36 ⟨#[]⟩ ⟨#[]⟩ := by rw [hW5]; exact hP4
      all_goals have hB5 : Below w.heap.size w W5 := by rw [hW5]; exact below_drewN hB4 1
      all_goals rw [← hW5]
      all_goals clear hW5
      all_goals obtain ⟨e0, e1, e2, e3⟩ := hX5.cells
      all_goals obtain ⟨f0, f1, f2, f3⟩ := hP5.cells
      all_goals obtain ⟨g0, g1, g2, g3⟩ := (hX5.set1 ⟨#[]⟩).cells
      all_goals have hP6 := hP5.setOther (a := ⟨B, 1, none⟩) (show w.heap.size ≠ B by omega) (.string ⟨#[]⟩)
      all_goals obtain ⟨i0, i1, i2, i3⟩ := hP6.cells
      all_goals go_wp2_with fail
      all_goals obtain ⟨k0, k1, _, _⟩ := (hP6.put u ⟨#[]⟩).cells
      all_goals exact bodyPost_ret (v := .agg #[.string u, .string ⟨#[]⟩]) (by simp [results, Tryz.results110, go_sem, k0, k1]) rfl ⟨by rw [HD.out, HU.out], below_put (hB5.setCell (p := ⟨B, 1, none⟩) (show w.heap.size ≤ B by omega) _) (Nat.le_refl _) _ _⟩
    · rw [decide_eq_false h1] at hcc
      have HD := Lib.hid (show cD (red x y).2 = cS (red x y).2 by unfold cD; rw [if_neg h1])
      clear h1
      go_region_held3 (fun w' => w'.cell? ⟨B, 0, none⟩ = some (.string u) ∧ w'.cell? ⟨B, 1, none⟩ = some (.string v))
        (go_keep)
        (first
          | (go_at_call 109; (with_reducible refine Calls.mono (qOne _) ?_); (rintro _ _ ⟨rfl, rfl⟩))
          | (go_at_call 73; (with_reducible refine Calls.mono (rCompare_any v ⟨#[49]⟩ _ hsv (by decide)) ?_); (rintro _ _ ⟨rfl, rfl⟩); (rw [HC.out])))
      all_goals obtain ⟨W5, hW5⟩ : ∃ W5, W5 = W4.drew := ⟨_, rfl⟩
      all_goals have hX5 : PairAt W5 B 36 u v := by rw [hW5]; exact hX
      all_goals have hP5 : PairAt W5 w.heap.size 36 ⟨#[]⟩ ⟨#[]⟩ := by rw [hW5]; exact hP4
      all_goals have hB5 : Below w.heap.size w W5 := by rw [hW5]; exact below_drewN hB4 1
      all_goals rw [← hW5]
      all_goals clear hW5
      all_goals obtain ⟨e0, e1, e2, e3⟩ := hX5.cells
      all_goals obtain ⟨f0, f1, f2, f3⟩ := hP5.cells
      all_goals go_wp2_with fail
      all_goals obtain ⟨k0, k1, _, _⟩ := (hP5.put u v).cells
      all_goals exact bodyPost_ret (v := .agg #[.string u, .string v]) (by simp [results, Tryz.results110, go_sem, k0, k1]) rfl ⟨by rw [HD.out, HU.out, ← HVV.out], below_put hB5 (Nat.le_refl _) _ _⟩

end Go.Proofs.YthhihdihkddakaaGreatDoor

/- The reference implementation of layer 2: Raw exactly, Canonical, Check, New, Of, Parts: the walks. -/
namespace Go.Proofs.YthhihdihkddakaaGreatDoor
open Go.RowKit Fra

set_option maxRecDepth 100000 in
set_option maxHeartbeats 2000000 in
theorem qRaw_zero (n d : ByteArray) (w : World) (hG : Ground w) (hd : d.size ≤ 4294967294) (h0 : vS d = 0) :
    Calls Tryz.prog 107 #[.agg #[.string n, .string d]] w fun r w' => r = .returned (.tuple #[.string n, .string ⟨#[49]⟩]) ∧ Below w.heap.size w w' := by
  obtain ⟨W0, hW0⟩ : ∃ W0, W0 = w.alloc (.cells #[.string n, .string d] 36) := ⟨_, rfl⟩
  have hS : StX w W0 36 n d := by rw [hW0]; exact StX.made hG _ _ _
  obtain ⟨c0, c1, _, _⟩ := hS.x.cells
  have HD := Lib.hid h0
  clear h0
  go_enter Tryz.func107, Tryz.ntmps107
  go_wp2_with fail
  rw [← hW0]
  clear hW0
  refine (qZero (x := 0) W0 (by omega) HD.out).mono ?_
  rintro _ _ ⟨rfl, rfl⟩
  go_wp2_with fail
  go_region_held3 (fun w' => w'.cell? ⟨w.heap.size, 0, none⟩ = some (.string n) ∧ w'.cell? ⟨w.heap.size, 1, none⟩ = some (.string d))
    (go_keep)
    ((go_at_call 109; (with_reducible refine Calls.mono (qOne _) ?_); (rintro _ _ ⟨rfl, rfl⟩)))
  all_goals go_wp2_with fail
  all_goals go_ret2
  all_goals exact ⟨rfl, by first | exact hS.below | exact hS.drew.below | exact (hS.drewN _).below⟩

set_option maxRecDepth 100000 in
set_option maxHeartbeats 2000000 in
theorem qRaw_pos (n d : ByteArray) (w : World) (hG : Ground w) (hd : d.size ≤ 4294967294) (h0 : 0 < vS d) :
    Calls Tryz.prog 107 #[.agg #[.string n, .string d]] w fun r w' => r = .returned (.tuple #[.string n, .string d]) ∧ Below w.heap.size w w' := by
  obtain ⟨W0, hW0⟩ : ∃ W0, W0 = w.alloc (.cells #[.string n, .string d] 36) := ⟨_, rfl⟩
  have hS : StX w W0 36 n d := by rw [hW0]; exact StX.made hG _ _ _
  obtain ⟨c0, c1, _, _⟩ := hS.x.cells
  have HC := Lib.hid (show cmp3 (vS d) (vS ⟨#[]⟩) = 1 by rw [vS_nil]; exact cmp3_gt (by omega))
  have HZ := Lib.hid (decide_eq_false (show ¬ vS d = 0 by omega))
  clear h0
  go_enter Tryz.func107, Tryz.ntmps107
  go_wp2_with fail
  rw [← hW0]
  clear hW0
  refine (qZero (x := vS d) W0 (by omega) rfl).mono ?_
  rintro _ _ ⟨rfl, rfl⟩
  rw [HZ.out]
  go_wp2_with fail
  refine (rCompare_any d ⟨#[]⟩ W0 (by omega) (by decide)).mono ?_
  rintro _ _ ⟨rfl, rfl⟩
  rw [HC.out]
  go_wp2_with fail
  go_region
  all_goals go_wp2_with fail
  all_goals go_ret2
  all_goals exact ⟨rfl, by first | exact hS.below | exact hS.drew.below | exact (hS.drewN _).below⟩

theorem qRaw_can {p : Int × Int} (w : World) (hG : Ground w) (hp : 0 < p.2) (hs : (cD p.2).size ≤ 4294967294) :
    Calls Tryz.prog 107 #[.agg #[.string (cS p.1), .string (cD p.2)]] w fun r w' => r = .returned (.tuple #[.string (cS p.1), .string (cS p.2)]) ∧ Below w.heap.size w w' := by
  by_cases h1 : p.2 = 1
  · have := qRaw_zero (cS p.1) (cD p.2) w hG hs (by rw [h1, cD_one]; exact vS_nil)
    rw [show cS p.2 = ⟨#[49]⟩ by rw [h1, cS_one]]
    exact this
  · have e : cD p.2 = cS p.2 := by unfold cD; rw [if_neg h1]
    have := qRaw_pos (cS p.1) (cD p.2) w hG hs (by rw [e, vS_cS]; exact hp)
    rw [e] at this ⊢
    exact this

set_option maxRecDepth 100000 in
set_option maxHeartbeats 2000000 in
theorem qCanonical_any (n d : ByteArray) (w : World) (hG : Ground w) (hn : n.size ≤ 850) (hd : d.size ≤ 850) :
    Calls Tryz.prog 118 #[.agg #[.string n, .string d]] w (FPost w (low (raw n d))) := by
  have HP := Lib.hid (raw_pos n d)
  obtain ⟨W0, hW0⟩ : ∃ W0, W0 = (w.alloc (.cells #[.string n, .string d] 36)).alloc (.cells #[.string ⟨#[]⟩, .string ⟨#[]⟩] 36) := ⟨_, rfl⟩
  have hS : St1 w W0 36 36 n d := by rw [hW0]; exact St1.made hG _ _ _ _
  obtain ⟨c0, c1, _, _⟩ := hS.x.cells
  go_enter Tryz.func118, Tryz.ntmps118
  go_wp2_with fail
  rw [← hW0]
  clear hW0
  refine (qRaw n d W0 851 hS.g (by omega) (by omega) (by decide)).mono ?_
  rintro _ w1 ⟨a, b, rfl, e1, e2, e3, e4, hB⟩
  replace hS := hS.next hB
  have HE1 := Lib.hid e1
  have HE2 := Lib.hid e2
  clear hB e1 e2 c0 c1
  go_wp2_with fail
  refine (show Calls _ _ _ w1 (FPost w1 (low (raw n d))) from qReduced w1 (by omega) (by omega) HE1.out HE2.out HP.out).mono ?_
  rintro _ w2 ⟨rfl, hB⟩
  replace hS := hS.next hB
  clear hB
  obtain ⟨r0, r1, r2, r3⟩ := hS.r.cells
  go_wp2_with fail
  obtain ⟨k0, k1, _, _⟩ := (hS.r.put (cS (low (raw n d)).1) (cD (low (raw n d)).2)).cells
  exact bodyPost_ret (v := .agg #[.string (cS (low (raw n d)).1), .string (cD (low (raw n d)).2)]) (by simp [results, Tryz.results118, go_sem, k0, k1]) rfl ⟨rfl, below_put hS.below (by omega) _ _⟩

set_option maxRecDepth 100000 in
set_option maxHeartbeats 2000000 in
theorem qNew_zero (n d : ByteArray) (w : World) (hd : d.size ≤ 850) (h0 : vS d = 0) :
    Calls Tryz.prog 63 #[.string n, .string d] w fun e w' => e = .returned (.tuple #[.agg #[.string ⟨#[]⟩, .string ⟨#[]⟩], .int .i64 10]) ∧ Below w.heap.size w w' := by
  have HD := Lib.hid h0
  clear h0
  obtain ⟨W0, hW0⟩ : ∃ W0, W0 = w.alloc (.cells #[.string ⟨#[]⟩, .string ⟨#[]⟩] 36) := ⟨_, rfl⟩
  have hB0 : Below w.heap.size w W0 := by rw [hW0]; exact (Below.refl _ _).alloc (Nat.le_refl _) _
  have hP : PairAt W0 w.heap.size 36 ⟨#[]⟩ ⟨#[]⟩ := by rw [hW0]; exact PairAt.made _ _ _ _
  obtain ⟨c4, c5, c6, c7⟩ := hP.cells
  go_enter Tryz.func63, Tryz.ntmps63
  go_wp2_with fail
  rw [← hW0]
  clear hW0
  refine (qZero (x := 0) W0 (by omega) HD.out).mono ?_
  rintro _ _ ⟨rfl, rfl⟩
  go_wp2_with fail
  obtain ⟨k0, k1, _, _⟩ := (hP.put ⟨#[]⟩ ⟨#[]⟩).cells
  exact bodyPost_ret (v := .tuple #[.agg #[.string ⟨#[]⟩, .string ⟨#[]⟩], .int .i64 10]) (by simp [results, Tryz.results63, go_sem, k0, k1]) rfl ⟨rfl, below_put hB0 (Nat.le_refl _) _ _⟩

set_option maxRecDepth 100000 in
set_option maxHeartbeats 2000000 in
theorem qNew_any {n d : ByteArray} {x y : Int} (w : World) (hG : Ground w) (hn : n.size ≤ 850) (hd : d.size ≤ 850) (hx : vS n = x) (hy : vS d = y) (h0 : y ≠ 0) :
    Calls Tryz.prog 63 #[.string n, .string d] w fun e w' => e = .returned (.tuple #[.agg #[.string (cS (redS x y).1), .string (cD (redS x y).2)], .int .i64 0]) ∧ Below w.heap.size w w' := by
  have HE := Lib.hid (show low (raw n d) = redS x y by unfold raw; rw [hx, hy]; exact rawP_redS h0)
  have HY := Lib.hid hy
  have HD := Lib.hid (decide_eq_false h0)
  clear hx hy h0
  obtain ⟨W0, hW0⟩ : ∃ W0, W0 = w.alloc (.cells #[.string ⟨#[]⟩, .string ⟨#[]⟩] 36) := ⟨_, rfl⟩
  have hB0 : Below w.heap.size w W0 := by rw [hW0]; exact (Below.refl _ _).alloc (Nat.le_refl _) _
  have hP : PairAt W0 w.heap.size 36 ⟨#[]⟩ ⟨#[]⟩ := by rw [hW0]; exact PairAt.made _ _ _ _
  go_enter Tryz.func63, Tryz.ntmps63
  go_wp2_with fail
  rw [← hW0]
  clear hW0
  refine (qZero (x := y) W0 (by omega) HY.out).mono ?_
  rintro _ _ ⟨rfl, rfl⟩
  rw [HD.out]
  go_wp2_with fail
  refine (show Calls _ _ _ W0 (FPost W0 (redS x y)) from by have := qCanonical_any n d W0 (hG.below hB0) hn hd; rwa [HE.out] at this).mono ?_
  rintro _ w1 ⟨rfl, hB⟩
  have hP1 := hP.below hB
  have hB1 := hB0.trans (hB.mono hB0.size)
  clear hB hB0 hP
  obtain ⟨c4, c5, c6, c7⟩ := hP1.cells
  go_wp2_with fail
  obtain ⟨k0, k1, _, _⟩ := (hP1.put (cS (redS x y).1) (cD (redS x y).2)).cells
  exact bodyPost_ret (v := .tuple #[.agg #[.string (cS (redS x y).1), .string (cD (redS x y).2)], .int .i64 0]) (by simp [results, Tryz.results63, go_sem, k0, k1]) rfl ⟨rfl, below_put hB1 (Nat.le_refl _) _ _⟩

set_option maxRecDepth 100000 in
set_option maxHeartbeats 2000000 in
theorem qOf_any {a : ByteArray} {x : Int} (w : World) (ha : a.size ≤ 850) (hx : vS a = x) :
    Calls Tryz.prog 54 #[.string a] w fun e w' => e = .returned (.agg #[.string (cS x), .string ⟨#[]⟩]) ∧ Below w.heap.size w w' := by
  have HX := Lib.hid hx
  clear hx
  obtain ⟨W0, hW0⟩ : ∃ W0, W0 = w.alloc (.cells #[.string ⟨#[]⟩, .string ⟨#[]⟩] 36) := ⟨_, rfl⟩
  have hB0 : Below w.heap.size w W0 := by rw [hW0]; exact (Below.refl _ _).alloc (Nat.le_refl _) _
  have hP : PairAt W0 w.heap.size 36 ⟨#[]⟩ ⟨#[]⟩ := by rw [hW0]; exact PairAt.made _ _ _ _
  go_enter Tryz.func54, Tryz.ntmps54
  go_wp2_with fail
  rw [← hW0]
  clear hW0
  refine (qOne W0).mono ?_
  rintro _ _ ⟨rfl, rfl⟩
  go_wp2_with fail
  refine (show Calls _ _ _ W0 (fun e w' => e = .returned (.agg #[.string (cS x), .string ⟨#[]⟩]) ∧ Below W0.heap.size W0 w') from by have := qReduced (x := x) (y := 1) W0 (show a.size ≤ 900 by omega) (show (ByteArray.mk #[49]).size ≤ 900 by decide) HX.out vS_one (by decide); rw [red_one] at this; exact this).mono ?_
  rintro _ w1 ⟨rfl, hB⟩
  have hP1 := hP.below hB
  have hB1 := hB0.trans (hB.mono hB0.size)
  clear hB hB0 hP
  obtain ⟨c4, c5, c6, c7⟩ := hP1.cells
  go_wp2_with fail
  obtain ⟨k0, k1, _, _⟩ := (hP1.put (cS x) ⟨#[]⟩).cells
  exact bodyPost_ret (v := .agg #[.string (cS x), .string ⟨#[]⟩]) (by simp [results, Tryz.results54, go_sem, k0, k1]) rfl ⟨rfl, below_put hB1 (Nat.le_refl _) _ _⟩

set_option maxRecDepth 100000 in
set_option maxHeartbeats 2000000 in
theorem qParts_any (n d : ByteArray) (w : World) (hG : Ground w) (hn : n.size ≤ 850) (hd : d.size ≤ 850) :
    Calls Tryz.prog 80 #[.agg #[.string n, .string d]] w fun r w' => r = .returned (.tuple #[.string (cS (low (raw n d)).1), .string (cS (low (raw n d)).2)]) ∧ Below w.heap.size w w' := by
  have HLP := Lib.hid (low_pos (raw_pos n d))
  have HSZ := Lib.hid (show (cD (low (raw n d)).2).size ≤ 4294967294 by have := cD_size (CapP.low (CapP.of_raw (k := 850) (by decide) hn hd) (raw_pos n d)).2; omega)
  obtain ⟨W0, hW0⟩ : ∃ W0, W0 = w.alloc (.cells #[.string n, .string d] 36) := ⟨_, rfl⟩
  have hS : StX w W0 36 n d := by rw [hW0]; exact StX.made hG _ _ _
  obtain ⟨c0, c1, _, _⟩ := hS.x.cells
  go_enter Tryz.func80, Tryz.ntmps80
  go_wp2_with fail
  rw [← hW0]
  clear hW0
  refine (qCanonical_any n d W0 hS.g hn hd).mono ?_
  rintro _ w1 ⟨rfl, hB⟩
  replace hS := hS.next hB
  clear hB c0 c1
  go_wp2_with fail
  refine (qRaw_can w1 hS.g HLP.out HSZ.out).mono ?_
  rintro _ w2 ⟨rfl, hB⟩
  replace hS := hS.next hB
  clear hB
  go_wp2_with fail
  go_ret2
  exact ⟨rfl, hS.below⟩

set_option maxRecDepth 100000 in
set_option maxHeartbeats 2000000 in
theorem qCheck_ok (n d : ByteArray) (w : World) (hG : Ground w) (hn : n.size ≤ 850) (hd : d.size ≤ 850) (hq : cS (low (raw n d)).1 = n ∧ cD (low (raw n d)).2 = d) :
    Calls Tryz.prog 79 #[.agg #[.string n, .string d]] w fun r w' => r = .returned (.int .i64 0) ∧ Below w.heap.size w w' := by
  have hg := frac_guard .neq (.tmp 3) (.tmp 5) n d (cS (low (raw n d)).1) (cD (low (raw n d)).2)
  have hqq := frac_alike (And.intro hq.1.symm hq.2.symm)
  clear hq
  obtain ⟨W0, hW0⟩ : ∃ W0, W0 = w.alloc (.cells #[.string n, .string d] 36) := ⟨_, rfl⟩
  have hS : StX w W0 36 n d := by rw [hW0]; exact StX.made hG _ _ _
  obtain ⟨c0, c1, _, _⟩ := hS.x.cells
  go_enter Tryz.func79, Tryz.ntmps79
  go_wp2_with fail
  rw [← hW0]
  clear hW0
  have HS := Lib.hid hS
  clear hS
  go_region_held3 (fun w' => w'.cell? ⟨w.heap.size, 0, none⟩ = some (.string n) ∧ w'.cell? ⟨w.heap.size, 1, none⟩ = some (.string d))
    (go_keep)
    ((go_at_call 118;
         (with_reducible refine Calls.mono (qCanonical_any n d _ (by first | exact HS.out.g | exact HS.out.drew.g | exact (HS.out.drewN _).g) hn hd) ?_);
         (rintro e W1 ⟨rfl, hB1⟩);
         (have HS2 : StX w W1 _ n d := (by first | exact HS.out.next hB1 | exact HS.out.next1 hB1 | exact HS.out.nextD hB1));
         (replace HS := Lib.hid HS2);
         (clear hB1 HS2);
         (obtain ⟨c0, c1, _, _⟩ := HS.out.x.cells)))
  all_goals go_wp2_with fail
  all_goals go_ret
  all_goals exact ⟨rfl, HS.out.below⟩

set_option maxRecDepth 100000 in
set_option maxHeartbeats 2000000 in
theorem qCheck_bad (n d : ByteArray) (w : World) (hG : Ground w) (hn : n.size ≤ 850) (hd : d.size ≤ 850) (hq : ¬ (cS (low (raw n d)).1 = n ∧ cD (low (raw n d)).2 = d)) :
    Calls Tryz.prog 79 #[.agg #[.string n, .string d]] w fun r w' => r = .returned (.int .i64 1) ∧ Below w.heap.size w w' := by
  have hg := frac_guard .neq (.tmp 3) (.tmp 5) n d (cS (low (raw n d)).1) (cD (low (raw n d)).2)
  have hqq := frac_differ (fun h => hq ⟨h.1.symm, h.2.symm⟩)
  clear hq
  obtain ⟨W0, hW0⟩ : ∃ W0, W0 = w.alloc (.cells #[.string n, .string d] 36) := ⟨_, rfl⟩
  have hS : StX w W0 36 n d := by rw [hW0]; exact StX.made hG _ _ _
  obtain ⟨c0, c1, _, _⟩ := hS.x.cells
  go_enter Tryz.func79, Tryz.ntmps79
  go_wp2_with fail
  rw [← hW0]
  clear hW0
  have HS := Lib.hid hS
  clear hS
  go_region_held3 (fun w' => w'.cell? ⟨w.heap.size, 0, none⟩ = some (.string n) ∧ w'.cell? ⟨w.heap.size, 1, none⟩ = some (.string d))
    (go_keep)
    ((go_at_call 118;
         (with_reducible refine Calls.mono (qCanonical_any n d _ (by first | exact HS.out.g | exact HS.out.drew.g | exact (HS.out.drewN _).g) hn hd) ?_);
         (rintro e W1 ⟨rfl, hB1⟩);
         (have HS2 : StX w W1 _ n d := (by first | exact HS.out.next hB1 | exact HS.out.next1 hB1 | exact HS.out.nextD hB1));
         (replace HS := Lib.hid HS2);
         (clear hB1 HS2);
         (obtain ⟨c0, c1, _, _⟩ := HS.out.x.cells)))
  all_goals go_wp2_with fail
  all_goals go_ret
  all_goals exact ⟨rfl, HS.out.below⟩

end Go.Proofs.YthhihdihkddakaaGreatDoor

/- The reference implementation of layer 2: Neg, Add, Sub, Mul, Quo, Compare, Floor: the walks. -/
namespace Go.Proofs.YthhihdihkddakaaGreatDoor
open Go.RowKit Fra

theorem Cap.fdiv {k : Nat} {n d : Int} (h : Cap k n) (hd : 0 < d) : Cap (k + 1) (Int.fdiv n d) := by
  have hb := floor_bounds (n := n) hd
  unfold Cap at *
  rw [Nat.pow_succ]
  generalize Int.fdiv n d = q at *
  have h1 : q ≤ n.natAbs := by
    rcases Int.lt_or_le q 1 with h | h
    · omega
    · have := Int.mul_le_mul_of_nonneg_left (show (1 : Int) ≤ d by omega) (show 0 ≤ q by omega); omega
  have h2 : -(n.natAbs : Int) - 1 ≤ q := by
    rcases Int.lt_or_le q (-1) with h | h
    · have := Int.mul_le_mul_of_nonpos_left (show q + 1 ≤ 0 by omega) (show (1 : Int) ≤ d by omega); omega
    · omega
  omega
theorem rsz {k : Nat} {z : Int} (h : Cap k z) {l : Nat} (hk : k + 1 ≤ l) : (cS z).size ≤ l := by have := cS_size h; omega
theorem qMul {a b : ByteArray} {x y z : Int} (w : World) (ha : a.size ≤ 1000) (hb : b.size ≤ 1000) (hx : vS a = x) (hy : vS b = y) (hz : x * y = z) :
    Calls Tryz.prog 64 #[.string a, .string b] w (StrPost w z) := by rw [← hz, ← hx, ← hy]; exact rMul_any a b w ha hb
theorem qAdd {a b : ByteArray} {x y z : Int} (w : World) (ha : a.size ≤ 1000) (hb : b.size ≤ 1000) (hx : vS a = x) (hy : vS b = y) (hz : x + y = z) :
    Calls Tryz.prog 59 #[.string a, .string b] w (StrPost w z) := by rw [← hz, ← hx, ← hy]; exact rAdd_any a b w ha hb
theorem qCmp {a b : ByteArray} {x y z : Int} (w : World) (ha : a.size ≤ 4294967296) (hb : b.size ≤ 4294967296) (hx : vS a = x) (hy : vS b = y) (hz : cmp3 x y = z) :
    Calls Tryz.prog 73 #[.string a, .string b] w fun e w' => e = .returned (.int .i64 z) ∧ w = w' := by rw [← hz, ← hx, ← hy]; exact rCompare_any a b w ha hb

set_option maxRecDepth 100000 in
set_option maxHeartbeats 2000000 in
theorem qNeg_any (n d : ByteArray) (w : World) (hG : Ground w) (hn : n.size ≤ 850) (hd : d.size ≤ 850) :
    Calls Tryz.prog 106 #[.agg #[.string n, .string d]] w (FPost w (negP (raw n d))) := by
  have HP := Lib.hid (raw_pos n d)
  have hc := CapP.of_raw (k := 850) (by decide) hn hd
  have HSZ := Lib.hid (show (cS (-(raw n d).1)).size ≤ 900 from rsz hc.1.neg (by decide))
  clear hc
  obtain ⟨W0, hW0⟩ : ∃ W0, W0 = (w.alloc (.cells #[.string n, .string d] 36)).alloc (.cells #[.string ⟨#[]⟩, .string ⟨#[]⟩] 36) := ⟨_, rfl⟩
  have hS : St1 w W0 36 36 n d := by rw [hW0]; exact St1.made hG _ _ _ _
  obtain ⟨c0, c1, _, _⟩ := hS.x.cells
  go_enter Tryz.func106, Tryz.ntmps106
  go_wp2_with fail
  rw [← hW0]
  clear hW0
  refine (qRaw n d W0 851 hS.g (by omega) (by omega) (by decide)).mono ?_
  rintro _ w1 ⟨a, b, rfl, e1, e2, e3, e4, hB⟩
  replace hS := hS.next hB
  have HE1 := Lib.hid e1
  have HE2 := Lib.hid e2
  clear hB e1 e2 c0 c1
  go_wp2_with fail
  refine (rNeg_any a w1 (by omega)).mono ?_
  rintro _ _ ⟨rfl, rfl⟩
  rw [HE1.out]
  go_wp2_with fail
  refine (show Calls _ _ _ w1 (FPost w1 (negP (raw n d))) from qReduced w1 HSZ.out (by omega) (vS_cS _) HE2.out HP.out).mono ?_
  rintro _ w2 ⟨rfl, hB⟩
  replace hS := hS.next hB
  clear hB
  obtain ⟨r0, r1, r2, r3⟩ := hS.r.cells
  go_wp2_with fail
  obtain ⟨k0, k1, _, _⟩ := (hS.r.put (cS (negP (raw n d)).1) (cD (negP (raw n d)).2)).cells
  exact bodyPost_ret (v := .agg #[.string (cS (negP (raw n d)).1), .string (cD (negP (raw n d)).2)]) (by simp [results, Tryz.results106, go_sem, k0, k1]) rfl ⟨rfl, below_put hS.below (by omega) _ _⟩

set_option maxRecDepth 100000 in
set_option maxHeartbeats 2000000 in
theorem qAdd_any (n d m e : ByteArray) (w : World) (hG : Ground w) (hn : n.size ≤ 400) (hd : d.size ≤ 400) (hm : m.size ≤ 400) (he : e.size ≤ 400) :
    Calls Tryz.prog 67 #[.agg #[.string n, .string d], .agg #[.string m, .string e]] w (FPost w (addP (raw n d) (raw m e))) := by
  have cx := CapP.of_raw (k := 400) (by decide) hn hd
  have cy := CapP.of_raw (k := 400) (by decide) hm he
  have xp := raw_pos n d
  have yp := raw_pos m e
  have HU := Lib.hid (show (cS ((raw n d).1 * (raw m e).2 + (raw m e).1 * (raw n d).2)).size ≤ 900 from rsz (Cap.add (Cap.mul cx.1 cy.2) (Cap.mul cy.1 cx.2)) (by decide))
  have HV := Lib.hid (show (cS ((raw n d).2 * (raw m e).2)).size ≤ 900 from rsz (Cap.mul cx.2 cy.2) (by decide))
  have HU1 := Lib.hid (show (cS ((raw n d).1 * (raw m e).2)).size ≤ 1000 from rsz (Cap.mul cx.1 cy.2) (by decide))
  have HU2 := Lib.hid (show (cS ((raw m e).1 * (raw n d).2)).size ≤ 1000 from rsz (Cap.mul cy.1 cx.2) (by decide))
  have HP := Lib.hid (Int.mul_pos xp yp)
  clear cx cy
  obtain ⟨W0, hW0⟩ : ∃ W0, W0 = (((w.alloc (.cells #[.string n, .string d] 36)).alloc (.cells #[.string m, .string e] 36)).alloc (.cells #[.string ⟨#[]⟩, .string ⟨#[]⟩] 36)) := ⟨_, rfl⟩
  have hS : St2 w W0 36 36 n d m e := by rw [hW0]; exact St2.made hG _ _ _ _ _ _
  obtain ⟨c0, c1, c2, c3, _, _, _, _⟩ := hS.cells
  go_enter Tryz.func67, Tryz.ntmps67
  go_wp2_with fail
  rw [← hW0]
  clear hW0
  refine (qRaw n d W0 401 hS.g (by omega) (by omega) (by decide)).mono ?_
  rintro _ w1 ⟨a, b, rfl, e1, e2, a1, b1, hB⟩
  replace hS := hS.next hB
  have HA := Lib.hid e1
  have HBB := Lib.hid e2
  clear hB e1 e2 c0 c1 c2 c3
  obtain ⟨c0, c1, c2, c3, _, _, _, _⟩ := hS.cells
  go_wp2_with fail
  refine (qRaw m e w1 401 hS.g (by omega) (by omega) (by decide)).mono ?_
  rintro _ w2 ⟨c, f, rfl, e1, e2, c1', f1, hB⟩
  replace hS := hS.next hB
  have HC := Lib.hid e1
  have HF := Lib.hid e2
  clear hB e1 e2 c0 c1 c2 c3
  go_wp2_with fail
  refine (qMul (x := (raw n d).1) (y := (raw m e).2) (z := (raw n d).1 * (raw m e).2) _ (by omega) (by omega) HA.out HF.out rfl).mono ?_
  rintro _ w3 ⟨rfl, hB⟩
  replace hS := hS.next hB
  clear hB
  go_wp2_with fail
  refine (qMul (x := (raw m e).1) (y := (raw n d).2) (z := (raw m e).1 * (raw n d).2) _ (by omega) (by omega) HC.out HBB.out rfl).mono ?_
  rintro _ w4 ⟨rfl, hB⟩
  replace hS := hS.next hB
  clear hB
  go_wp2_with fail
  refine (qAdd (x := (raw n d).1 * (raw m e).2) (y := (raw m e).1 * (raw n d).2) _ HU1.out HU2.out (vS_cS _) (vS_cS _) rfl).mono ?_
  rintro _ w5 ⟨rfl, hB⟩
  replace hS := hS.next hB
  clear hB
  go_wp2_with fail
  refine (qMul (x := (raw n d).2) (y := (raw m e).2) (z := (raw n d).2 * (raw m e).2) _ (by omega) (by omega) HBB.out HF.out rfl).mono ?_
  rintro _ w6 ⟨rfl, hB⟩
  replace hS := hS.next hB
  clear hB
  go_wp2_with fail
  refine (show Calls _ _ _ w6 (FPost w6 (addP (raw n d) (raw m e))) from qReduced w6 HU.out HV.out (vS_cS _) (vS_cS _) HP.out).mono ?_
  rintro _ w7 ⟨rfl, hB⟩
  replace hS := hS.next hB
  clear hB
  obtain ⟨r0, r1, r2, r3⟩ := hS.r.cells
  go_wp2_with fail
  obtain ⟨k0, k1, _, _⟩ := (hS.r.put (cS (addP (raw n d) (raw m e)).1) (cD (addP (raw n d) (raw m e)).2)).cells
  exact bodyPost_ret (v := .agg #[.string (cS (addP (raw n d) (raw m e)).1), .string (cD (addP (raw n d) (raw m e)).2)]) (by simp [results, Tryz.results67, go_sem, k0, k1]) rfl ⟨rfl, below_put hS.below (by omega) _ _⟩

set_option maxRecDepth 100000 in
set_option maxHeartbeats 2000000 in
theorem qMul_any (n d m e : ByteArray) (w : World) (hG : Ground w) (hn : n.size ≤ 400) (hd : d.size ≤ 400) (hm : m.size ≤ 400) (he : e.size ≤ 400) :
    Calls Tryz.prog 81 #[.agg #[.string n, .string d], .agg #[.string m, .string e]] w (FPost w (mulP (raw n d) (raw m e))) := by
  have cx := CapP.of_raw (k := 400) (by decide) hn hd
  have cy := CapP.of_raw (k := 400) (by decide) hm he
  have xp := raw_pos n d
  have yp := raw_pos m e
  have HU := Lib.hid (show (cS ((raw n d).1 * (raw m e).1)).size ≤ 900 from rsz (Cap.mul cx.1 cy.1) (by decide))
  have HV := Lib.hid (show (cS ((raw n d).2 * (raw m e).2)).size ≤ 900 from rsz (Cap.mul cx.2 cy.2) (by decide))
  have HP := Lib.hid (Int.mul_pos xp yp)
  clear cx cy
  obtain ⟨W0, hW0⟩ : ∃ W0, W0 = (((w.alloc (.cells #[.string n, .string d] 36)).alloc (.cells #[.string m, .string e] 36)).alloc (.cells #[.string ⟨#[]⟩, .string ⟨#[]⟩] 36)) := ⟨_, rfl⟩
  have hS : St2 w W0 36 36 n d m e := by rw [hW0]; exact St2.made hG _ _ _ _ _ _
  obtain ⟨c0, c1, c2, c3, _, _, _, _⟩ := hS.cells
  go_enter Tryz.func81, Tryz.ntmps81
  go_wp2_with fail
  rw [← hW0]
  clear hW0
  refine (qRaw n d W0 401 hS.g (by omega) (by omega) (by decide)).mono ?_
  rintro _ w1 ⟨a, b, rfl, e1, e2, a1, b1, hB⟩
  replace hS := hS.next hB
  have HA := Lib.hid e1
  have HBB := Lib.hid e2
  clear hB e1 e2 c0 c1 c2 c3
  obtain ⟨c0, c1, c2, c3, _, _, _, _⟩ := hS.cells
  go_wp2_with fail
  refine (qRaw m e w1 401 hS.g (by omega) (by omega) (by decide)).mono ?_
  rintro _ w2 ⟨c, f, rfl, e1, e2, c1', f1, hB⟩
  replace hS := hS.next hB
  have HC := Lib.hid e1
  have HF := Lib.hid e2
  clear hB e1 e2 c0 c1 c2 c3
  go_wp2_with fail
  refine (qMul (x := (raw n d).1) (y := (raw m e).1) (z := (raw n d).1 * (raw m e).1) _ (by omega) (by omega) HA.out HC.out rfl).mono ?_
  rintro _ w3 ⟨rfl, hB⟩
  replace hS := hS.next hB
  clear hB
  go_wp2_with fail
  refine (qMul (x := (raw n d).2) (y := (raw m e).2) (z := (raw n d).2 * (raw m e).2) _ (by omega) (by omega) HBB.out HF.out rfl).mono ?_
  rintro _ w4 ⟨rfl, hB⟩
  replace hS := hS.next hB
  clear hB
  go_wp2_with fail
  refine (show Calls _ _ _ w4 (FPost w4 (mulP (raw n d) (raw m e))) from qReduced w4 HU.out HV.out (vS_cS _) (vS_cS _) HP.out).mono ?_
  rintro _ w5 ⟨rfl, hB⟩
  replace hS := hS.next hB
  clear hB
  obtain ⟨r0, r1, r2, r3⟩ := hS.r.cells
  go_wp2_with fail
  obtain ⟨k0, k1, _, _⟩ := (hS.r.put (cS (mulP (raw n d) (raw m e)).1) (cD (mulP (raw n d) (raw m e)).2)).cells
  exact bodyPost_ret (v := .agg #[.string (cS (mulP (raw n d) (raw m e)).1), .string (cD (mulP (raw n d) (raw m e)).2)]) (by simp [results, Tryz.results81, go_sem, k0, k1]) rfl ⟨rfl, below_put hS.below (by omega) _ _⟩

set_option maxRecDepth 100000 in
set_option maxHeartbeats 2000000 in
theorem qCompare_any (n d m e : ByteArray) (w : World) (hG : Ground w) (hn : n.size ≤ 400) (hd : d.size ≤ 400) (hm : m.size ≤ 400) (he : e.size ≤ 400) :
    Calls Tryz.prog 58 #[.agg #[.string n, .string d], .agg #[.string m, .string e]] w fun r w' => r = .returned (.int .i64 (cmpP (raw n d) (raw m e))) ∧ Below w.heap.size w w' := by
  have cx := CapP.of_raw (k := 400) (by decide) hn hd
  have cy := CapP.of_raw (k := 400) (by decide) hm he
  have xp := raw_pos n d
  have yp := raw_pos m e
  have HU1 := Lib.hid (show (cS ((raw n d).1 * (raw m e).2)).size ≤ 1000 from rsz (Cap.mul cx.1 cy.2) (by decide))
  have HU2 := Lib.hid (show (cS ((raw m e).1 * (raw n d).2)).size ≤ 1000 from rsz (Cap.mul cy.1 cx.2) (by decide))
  clear xp yp
  clear cx cy
  obtain ⟨W0, hW0⟩ : ∃ W0, W0 = ((w.alloc (.cells #[.string n, .string d] 36)).alloc (.cells #[.string m, .string e] 36)) := ⟨_, rfl⟩
  have hS : StL w W0 [(w.heap.size + 1, m, e), (w.heap.size, n, d)] := by rw [hW0]; exact StL.two hG _ _ _ _
  obtain ⟨p0, p1, _⟩ := hS.box
  obtain ⟨c0, c1, _, _⟩ := p0.cells
  obtain ⟨c2, c3, _, _⟩ := p1.cells
  go_enter Tryz.func58, Tryz.ntmps58
  go_wp2_with fail
  rw [← hW0]
  clear hW0
  refine (qRaw n d W0 401 hS.g (by omega) (by omega) (by decide)).mono ?_
  rintro _ w1 ⟨a, b, rfl, e1, e2, a1, b1, hB⟩
  replace hS := hS.next hB
  have HA := Lib.hid e1
  have HBB := Lib.hid e2
  clear hB e1 e2 p0 p1 c0 c1 c2 c3
  obtain ⟨p0, p1, _⟩ := hS.box
  obtain ⟨c0, c1, _, _⟩ := p0.cells
  obtain ⟨c2, c3, _, _⟩ := p1.cells
  go_wp2_with fail
  refine (qRaw m e w1 401 hS.g (by omega) (by omega) (by decide)).mono ?_
  rintro _ w2 ⟨c, f, rfl, e1, e2, c1', f1, hB⟩
  replace hS := hS.next hB
  have HC := Lib.hid e1
  have HF := Lib.hid e2
  clear hB e1 e2 p0 p1 c0 c1 c2 c3
  go_wp2_with fail
  refine (qMul (x := (raw n d).1) (y := (raw m e).2) (z := (raw n d).1 * (raw m e).2) _ (by omega) (by omega) HA.out HF.out rfl).mono ?_
  rintro _ w3 ⟨rfl, hB⟩
  replace hS := hS.next hB
  clear hB
  go_wp2_with fail
  refine (qMul (x := (raw m e).1) (y := (raw n d).2) (z := (raw m e).1 * (raw n d).2) _ (by omega) (by omega) HC.out HBB.out rfl).mono ?_
  rintro _ w4 ⟨rfl, hB⟩
  replace hS := hS.next hB
  clear hB
  go_wp2_with fail
  refine (qCmp (x := (raw n d).1 * (raw m e).2) (y := (raw m e).1 * (raw n d).2) (z := cmpP (raw n d) (raw m e)) w4 (Nat.le_trans HU1.out (by decide)) (Nat.le_trans HU2.out (by decide)) (vS_cS _) (vS_cS _) rfl).mono ?_
  rintro _ _ ⟨rfl, rfl⟩
  go_wp2_with fail
  go_ret
  exact ⟨rfl, hS.below⟩

set_option maxRecDepth 100000 in
set_option maxHeartbeats 2000000 in
theorem qSub_any (n d m e : ByteArray) (w : World) (hG : Ground w) (hn : n.size ≤ 400) (hd : d.size ≤ 400) (hm : m.size ≤ 398) (he : e.size ≤ 398) :
    Calls Tryz.prog 53 #[.agg #[.string n, .string d], .agg #[.string m, .string e]] w (FPost w (addP (raw n d) (negP (raw m e)))) := by
  have cy := CapP.neg (CapP.of_raw (k := 398) (by decide) hm he) (raw_pos m e)
  have HU := Lib.hid (show (cS (negP (raw m e)).1).size ≤ 400 from rsz cy.1 (by decide))
  have HV := Lib.hid (show (cD (negP (raw m e)).2).size ≤ 400 by have := cD_size cy.2; omega)
  have HR := Lib.hid (raw_can (negP_pos (raw_pos m e)))
  have hadd : ∀ W, Ground W → Calls Tryz.prog 67 #[.agg #[.string n, .string d], .agg #[.string (cS (negP (raw m e)).1), .string (cD (negP (raw m e)).2)]] W (FPost W (addP (raw n d) (negP (raw m e)))) := by
    intro W hW
    have := qAdd_any n d (cS (negP (raw m e)).1) (cD (negP (raw m e)).2) W hW hn hd HU.out HV.out
    rwa [HR.out] at this
  have HADD := Lib.hid hadd
  clear cy hadd
  obtain ⟨W0, hW0⟩ : ∃ W0, W0 = ((w.alloc (.cells #[.string n, .string d] 36)).alloc (.cells #[.string m, .string e] 36)).alloc (.cells #[.string ⟨#[]⟩, .string ⟨#[]⟩] 36) := ⟨_, rfl⟩
  have hS : St2 w W0 36 36 n d m e := by rw [hW0]; exact St2.made hG _ _ _ _ _ _
  obtain ⟨c0, c1, c2, c3, c4, c5, c6, c7⟩ := hS.cells
  have hn1 : w.heap.size + 1 + 1 ≠ w.heap.size := by omega
  have HS := Lib.hid hS
  clear hS
  go_enter Tryz.func53, Tryz.ntmps53
  go_wp2_with fail
  rw [← hW0]
  clear hW0
  go_region_held3 (fun w' => w'.cell? ⟨w.heap.size, 0, none⟩ = some (.string n) ∧ w'.cell? ⟨w.heap.size, 1, none⟩ = some (.string d) ∧ w'.cell? ⟨w.heap.size + 1, 0, none⟩ = some (.string m) ∧ w'.cell? ⟨w.heap.size + 1, 1, none⟩ = some (.string e))
    (go_keep)
    (first
    | (go_at_call 106;
         (with_reducible refine Calls.mono (qNeg_any m e _ (by first | exact HS.out.g | exact HS.out.drew.g | exact (HS.out.drewN _).g) (by omega) (by omega)) ?_);
         (rintro _ W1 ⟨rfl, hB1⟩);
         (have HS2 : St2 w W1 _ _ n d m e := (by first | exact HS.out.next hB1 | exact HS.out.next1 hB1 | exact HS.out.nextD hB1));
         (replace HS := Lib.hid HS2);
         (clear hB1 HS2);
         (obtain ⟨c0, c1, c2, c3, c4, c5, c6, c7⟩ := HS.out.cells))
    | (go_at_call 67;
         (with_reducible refine Calls.mono (HADD.out _ (by first | exact HS.out.g | exact HS.out.drew.g | exact (HS.out.drewN _).g)) ?_);
         (rintro _ W1 ⟨rfl, hB1⟩);
         (have HS2 : St2 w W1 _ _ n d m e := (by first | exact HS.out.next hB1 | exact HS.out.next1 hB1 | exact HS.out.nextD hB1));
         (replace HS := Lib.hid HS2);
         (clear hB1 HS2);
         (obtain ⟨c0, c1, c2, c3, c4, c5, c6, c7⟩ := HS.out.cells)))
  all_goals go_wp2_with fail
  all_goals obtain ⟨k0, k1, _, _⟩ := (HS.out.r.put (cS (addP (raw n d) (negP (raw m e))).1) (cD (addP (raw n d) (negP (raw m e))).2)).cells
  all_goals exact bodyPost_ret (v := .agg #[.string (cS (addP (raw n d) (negP (raw m e))).1), .string (cD (addP (raw n d) (negP (raw m e))).2)]) (by simp [results, Tryz.results53, go_sem, k0, k1]) rfl ⟨rfl, below_put HS.out.below (by omega) _ _⟩

set_option maxRecDepth 100000 in
set_option maxHeartbeats 2000000 in
theorem qFloor_any (n d : ByteArray) (w : World) (hG : Ground w) (hn : n.size ≤ 400) (hd : d.size ≤ 400) :
    Calls Tryz.prog 52 #[.agg #[.string n, .string d]] w (StrPost w (Int.fdiv (raw n d).1 (raw n d).2)) := by
  obtain ⟨q, hq⟩ : ∃ q, Int.fdiv (raw n d).1 (raw n d).2 = q := ⟨_, rfl⟩
  have xp := raw_pos n d
  have cx := CapP.of_raw (k := 400) (by decide) hn hd
  have hb := floor_bounds (n := (raw n d).1) xp
  rw [hq] at hb
  obtain ⟨c, hc⟩ : ∃ c, cmp3 (q * (raw n d).2) (raw n d).1 = c := ⟨_, rfl⟩
  have hc0 : ¬ 0 < c := by rw [← hc]; rw [cmp3_pos]; omega
  have hqc : Cap 401 q := by rw [← hq]; exact Cap.fdiv cx.1 xp
  have HQS := Lib.hid (show (cS q).size ≤ 1000 from rsz hqc (by decide))
  have HMS := Lib.hid (show (cS (q * (raw n d).2)).size ≤ 4294967296 from rsz (Cap.mul hqc cx.2) (by decide))
  have HX := Lib.hid (show (raw n d).2 ≠ 0 by omega)
  have HQ := Lib.hid hq
  have HC := Lib.hid hc
  rw [hq]
  clear hq hb hc hqc cx xp
  obtain ⟨W0, hW0⟩ : ∃ W0, W0 = w.alloc (.cells #[.string n, .string d] 36) := ⟨_, rfl⟩
  have hS : StX w W0 36 n d := by rw [hW0]; exact StX.made hG _ _ _
  obtain ⟨c0, c1, _, _⟩ := hS.x.cells
  go_enter Tryz.func52, Tryz.ntmps52
  go_wp2_with fail
  rw [← hW0]
  clear hW0
  refine (qRaw n d W0 401 hS.g (by omega) (by omega) (by decide)).mono ?_
  rintro _ w1 ⟨a, b, rfl, e1, e2, e3, e4, hB⟩
  replace hS := hS.next hB
  have HE1 := Lib.hid e1
  have HE2 := Lib.hid e2
  clear hB e1 e2 c0 c1
  go_wp2_with fail
  refine (show Calls _ _ _ w1 (fun e w' => e = .returned (.tuple #[.string (cS q), .string (cS (Int.fmod (raw n d).1 (raw n d).2)), .int .i64 0]) ∧ Below w1.heap.size w1 w') from by
    have := rDiv_any a b w1 (by omega) (by omega) (by rw [HE2.out]; exact HX.out)
    rw [HE1.out, HE2.out] at this
    unfold DivPost at this
    rwa [HQ.out] at this).mono ?_
  rintro _ w2 ⟨rfl, hB⟩
  replace hS := hS.next hB
  clear hB
  go_wp2_with fail
  refine (qMul (x := q) (y := (raw n d).2) (z := q * (raw n d).2) w2 HQS.out (by omega) (vS_cS _) HE2.out rfl).mono ?_
  rintro _ w3 ⟨rfl, hB⟩
  replace hS := hS.next hB
  clear hB
  go_wp2_with fail
  refine (qCmp (x := q * (raw n d).2) (y := (raw n d).1) (z := c) w3 HMS.out (by omega) (vS_cS _) HE1.out HC.out).mono ?_
  rintro _ _ ⟨rfl, rfl⟩
  go_wp2_with fail
  go_ret
  exact ⟨rfl, hS.below⟩

end Go.Proofs.YthhihdihkddakaaGreatDoor
