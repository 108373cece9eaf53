/- Layer 6, the law of P6.5: DateMonths: the walk. -/
import Derived.Test.YtgpjadlnfofppaaDoorYlc
namespace Go.Proofs.YtgpjadlnfofppaaDoor
open Go.RowKit Dat

/-- a day shifted into a month -/
theorem add_in {a i : Int} (ha : okD a = true) (i1 : -1000 ≤ i) (i2 : i ≤ 1000) (h0 : 0 ≤ (mo (ix a) : Int) + i) (h1 : (mo (ix a) : Int) + i < 3600) : ∃ (x : Int) (j : Nat), addR a i = (x, 0) ∧ okD x = true ∧ (mo (ix a) : Int) + i = j ∧ ix x = am (ix a) j ∧ mo (ix x) = j := by
  obtain ⟨j, hj⟩ : ∃ j : Nat, (mo (ix a) : Int) + i = j := ⟨((mo (ix a) : Int) + i).toNat, by omega⟩
  have h3 := (am_in (ix a) j).2
  have h4 := st_small (k := j + 1) (by omega)
  have e1 : addR a i = ((am (ix a) j : Int) - 25567, 0) := by
    unfold addR
    rw [if_pos ha, if_neg (by omega), if_pos (by omega), hj]
    rfl
  have hx : ix ((am (ix a) j : Int) - 25567) = am (ix a) j := ix_of (by omega)
  exact ⟨_, j, e1, okD_iff.2 (by omega), hj, hx, by rw [hx, am_mo]⟩
theorem add_ways {a i : Int} (ha : okD a = true) (i1 : -4800 ≤ i) (i2 : i ≤ 4800) : (addR a i = (0, 13) ∧ ¬ (0 ≤ (mo (ix a) : Int) + i ∧ (mo (ix a) : Int) + i < 3600)) ∨ ∃ (x : Int) (j : Nat), addR a i = (x, 0) ∧ (mo (ix a) : Int) + i = j ∧ j < 3600 ∧ x = (am (ix a) j : Int) - 25567 := by
  by_cases h : 0 ≤ (mo (ix a) : Int) + i ∧ (mo (ix a) : Int) + i < 3600
  · right
    refine ⟨_, ((mo (ix a) : Int) + i).toNat, ?_, by omega, by omega, rfl⟩
    unfold addR
    rw [if_pos ha, if_neg (by omega), if_pos h]
  · left
    unfold addR
    rw [if_pos ha, if_neg (by omega), if_neg h]
    exact ⟨rfl, h⟩
/-- shifting twice, if the day of the month is at most 28 -/
theorem add_twice {a x i k c : Int} {j : Nat} (ha : okD a = true) (hx : okD x = true) (k1 : -1000 ≤ k) (k2 : k ≤ 1000) (i1 : -1000 ≤ i) (i2 : i ≤ 1000) (hj : (mo (ix a) : Int) + i = j) (hxi : ix x = am (ix a) j) (hmx : mo (ix x) = j) (hd : dy (ix a) ≤ 28) (h : addR a (i + k) = (c, 0)) : addR x k = (c, 0) := by
  rcases add_ways (a := a) (i := i + k) ha (by omega) (by omega) with ⟨g, _⟩ | ⟨y, l, g, hl, hl2, hy⟩
  · rw [g] at h; exact absurd (Prod.mk.inj h).2 (by decide)
  · rw [g] at h
    have hyc := (Prod.mk.inj h).1
    unfold addR
    rw [if_pos hx, if_neg (by omega), hmx, if_pos (by omega), show ((j : Int) + k).toNat = l by omega, hxi, am_am hd, ← hyc, hy]
/-- a later day is not shifted to an earlier one -/
theorem add_order {a b x c i : Int} {j : Nat} (ha : okD a = true) (hb : okD b = true) (i1 : -1000 ≤ i) (i2 : i ≤ 1000) (hj : (mo (ix a) : Int) + i = j) (hx : okD x = true) (hxi : ix x = am (ix a) j) (h : addR b i = (c, 0)) : (a ≤ b → x ≤ c) ∧ (b ≤ a → c ≤ x) := by
  have hxx := (ix_is hx).1
  rcases add_ways (a := b) (i := i) hb (by omega) (by omega) with ⟨g, _⟩ | ⟨y, l, g, hl, hl2, hy⟩
  · rw [g] at h; exact absurd (Prod.mk.inj h).2 (by decide)
  · rw [g] at h
    have hyc := (Prod.mk.inj h).1
    constructor
    · intro hab
      have := am_mono (s := l) (ix_le ha hb hab) j (by omega)
      omega
    · intro hab
      have := am_mono (s := j) (ix_le hb ha hab) l (by omega)
      omega
theorem dy_of {a x : Int} {j : Nat} (hxi : ix x = am (ix a) j) : dy (ix x) = min (dy (ix a)) (ml (22800 + j)) := by rw [hxi, am_dy]
/-- the last day of the month of the shifted day -/
theorem last_of {x l D Q : Int} (hx : okD x = true) (hl : lastR x = (l, 0)) (hQ : Q = dy (ix x)) {a : Int} {j : Nat} (hxi : ix x = am (ix a) j) (hmx : mo (ix x) = j) (hD : D = dy (ix a)) : Q ≤ D ∧ (Q < D → x = l) := by
  have hd := dy_of hxi
  have hxx := (ix_is hx).1
  unfold lastR at hl
  rw [if_pos hx] at hl
  have h1 := (Prod.mk.inj hl).1
  have h2 := lst_is (ix x)
  rw [hmx] at h2
  constructor
  · omega
  · intro h
    omega
theorem parts_ok {d : Int} (hd : okD d = true) : ∃ Y M D : Int, partsR d = (Y, M, D, 0) ∧ Y = yr (ix d) ∧ M = mn (ix d) ∧ D = dy (ix d) ∧ 1900 ≤ Y ∧ Y ≤ 2199 ∧ 1 ≤ M ∧ M ≤ 12 ∧ 1 ≤ D ∧ D ≤ 31 ∧ 12 * Y + M - 1 = 22800 + mo (ix d) := by
  obtain ⟨Y, M, D, hY, hM, hD, y1, y2, m1, m2, e1, e2, hmo, _⟩ := parts_of hd
  exact ⟨Y, M, D, partsR_ok hd hY hM hD, hY, hM, hD, y1, y2, m1, m2, e1, e2, hmo⟩
theorem tmod_small {n : Int} : -1000 ≤ n.tmod 1001 ∧ n.tmod 1001 ≤ 1000 := by
  have h1 := Int.tmod_lt_of_pos n (show (0 : Int) < 1001 by decide)
  have h2 := Int.lt_tmod_of_pos n (show (0 : Int) < 1001 by decide)
  omega

set_option maxRecDepth 100000 in
set_option maxHeartbeats 32000000 in
theorem ldm_any (a b n m : Int) (w : World) (hG : Ground w) (n0 : -32768 ≤ n) (n1 : n ≤ 32767) (m0 : -32768 ≤ m) (m1 : m ≤ 32767) : Calls Tryd.prog 9 #[.int .i64 a, .int .i64 b, .int .i16 n, .int .i16 m] w fun e w' => e = .returned (.bool true) ∧ Below w.heap.size w w' := by
  have HA := Lib.hid (fun w (hG : Ground w) => awake_any w hG)
  have HVA := Lib.hid (fun w => lValid a w)
  have HVB := Lib.hid (fun w => lValid b w)
  have HG := Lib.hid hG
  cases ha : okD a
  case false =>
    rw [ha] at HVA
    clear hG ha HVB
    go_enter Tryd.func9, Tryd.ntmps9
    go_wp2_with fail
    refine (HVA.out _).mono ?_
    rintro _ _ ⟨rfl, rfl⟩
    go_wp2_with fail
    refine (HA.out _ HG.out).mono ?_
    rintro _ w1 ⟨rfl, hB1⟩
    have HG1 := Lib.hid (HG.out.below hB1)
    have HB1 := Lib.hid hB1
    clear hB1
    go_wp2_with fail
    go_ret
    exact ⟨rfl, HB1.out⟩
  rw [ha] at HVA
  cases hb : okD b
  case false =>
    rw [hb] at HVB
    clear hG ha hb
    go_enter Tryd.func9, Tryd.ntmps9
    go_wp2_with fail
    refine (HVA.out _).mono ?_
    rintro _ _ ⟨rfl, rfl⟩
    go_wp2_with fail
    refine (HVB.out _).mono ?_
    rintro _ _ ⟨rfl, rfl⟩
    go_wp2_with fail
    refine (HA.out _ HG.out).mono ?_
    rintro _ w2 ⟨rfl, hB2⟩
    have HG2 := Lib.hid (HG.out.below hB2)
    have HB2 := Lib.hid hB2
    clear hB2
    go_wp2_with fail
    go_ret
    exact ⟨rfl, HB2.out⟩
  rw [hb] at HVB
  obtain ⟨i, hi⟩ : ∃ i, n.tmod 1001 = i := ⟨_, rfl⟩
  obtain ⟨k, hk⟩ : ∃ k, m.tmod 1001 = k := ⟨_, rfl⟩
  obtain ⟨i1, i2⟩ := tmod_small (n := n)
  obtain ⟨k1, k2⟩ := tmod_small (n := m)
  rw [hi] at i1 i2
  rw [hk] at k1 k2
  have HI := Lib.hid hi
  have HK := Lib.hid hk
  obtain ⟨Y, M, D, hp, hY, hM, hD, y1, y2, mm1, mm2, e1, e2, hmo⟩ := parts_ok ha
  have H2 := Lib.hid (fun w (hG : Ground w) => pParts a Y M D 0 w hG hp)
  clear hi hk
  by_cases hin : 0 ≤ (mo (ix a) : Int) + i ∧ (mo (ix a) : Int) + i < 3600
  case neg =>
    have hx : addR a i = (0, 13) := by
      unfold addR
      rw [if_pos ha, if_neg (by omega), if_neg hin]
    have H1 := Lib.hid (fun w (hG : Ground w) => pAdd a i 0 13 w hG hx)
    have hout : 12 * Y + M - 1 + i < 22800 ∨ 26400 ≤ 12 * Y + M - 1 + i := by omega
    clear hG ha hb hp hY hM hD hmo hin hx
    rcases hout with hout | hout
    · skip
      go_enter Tryd.func9, Tryd.ntmps9
      go_wp2_with fail
      refine (HVA.out _).mono ?_
      rintro _ _ ⟨rfl, rfl⟩
      go_wp2_with fail
      refine (HVB.out _).mono ?_
      rintro _ _ ⟨rfl, rfl⟩
      go_upto_region 4 with fail
      try rw [HI.out]
      try rw [HK.out]
      go_wp2_with fail
      refine (H1.out _ HG.out).mono ?_
      rintro _ _ ⟨rfl, rfl⟩
      go_wp2_with fail
      refine (H2.out _ HG.out).mono ?_
      rintro _ _ ⟨rfl, rfl⟩
      go_wp2_with fail
      refine (HA.out _ HG.out).mono ?_
      rintro _ w3 ⟨rfl, hB3⟩
      have HG3 := Lib.hid (HG.out.below hB3)
      have HB3 := Lib.hid hB3
      clear hB3
      go_wp2_with fail
      go_ret
      exact ⟨rfl, HB3.out⟩
    · have hnl : ¬ 12 * Y + M - 1 + i < 22800 := by omega
      go_enter Tryd.func9, Tryd.ntmps9
      go_wp2_with fail
      refine (HVA.out _).mono ?_
      rintro _ _ ⟨rfl, rfl⟩
      go_wp2_with fail
      refine (HVB.out _).mono ?_
      rintro _ _ ⟨rfl, rfl⟩
      go_upto_region 4 with fail
      try rw [HI.out]
      try rw [HK.out]
      go_wp2_with fail
      refine (H1.out _ HG.out).mono ?_
      rintro _ _ ⟨rfl, rfl⟩
      go_wp2_with fail
      refine (H2.out _ HG.out).mono ?_
      rintro _ _ ⟨rfl, rfl⟩
      go_wp2_with fail
      refine (HA.out _ HG.out).mono ?_
      rintro _ w4 ⟨rfl, hB4⟩
      have HG4 := Lib.hid (HG.out.below hB4)
      have HB4 := Lib.hid hB4
      clear hB4
      go_wp2_with fail
      go_ret
      exact ⟨rfl, HB4.out⟩
  obtain ⟨x, j, h1, hx, hj, hxi, hmx⟩ := add_in ha i1 i2 hin.1 hin.2
  obtain ⟨Z, P, Q, hp2, hZ, hP, hQ, z1, z2, p1, p2, q1, q2, hmo2⟩ := parts_ok hx
  obtain ⟨l, hl⟩ : ∃ l, lastR x = (l, 0) := by unfold lastR; rw [if_pos hx]; exact ⟨_, rfl⟩
  obtain ⟨hQD, hQl⟩ := last_of hx hl hQ hxi hmx hD
  have H1 := Lib.hid (fun w (hG : Ground w) => pAdd a i x 0 w hG h1)
  have H3 := Lib.hid (fun w (hG : Ground w) => pParts x Z P Q 0 w hG hp2)
  have H4 := Lib.hid (fun w (hG : Ground w) => pLast x l 0 w hG hl)
  have ht1 : ¬ 12 * Y + M - 1 + i < 22800 := by omega
  have ht2 : ¬ 26400 ≤ 12 * Y + M - 1 + i := by omega
  have htq : (12 * Z + P - 1 != 12 * Y + M - 1 + i) = false := by rw [bne_eq_false_iff_eq]; omega
  obtain ⟨u, v, h5⟩ : ∃ u v, addR a (i + k) = (u, v) := ⟨_, _, rfl⟩
  have H5 := Lib.hid (fun w (hG : Ground w) => pAdd a (i + k) u v w hG h5)
  have H6 := Lib.hid (show v = 0 → D ≤ 28 → ∀ w (hG : Ground w), _ from fun hv hd28 w hG => pAdd x k u 0 w hG (add_twice ha hx k1 k2 i1 i2 hj hxi hmx (by omega) (by rw [h5, hv])))
  obtain ⟨c, g, h7⟩ : ∃ c g, addR b i = (c, g) := ⟨_, _, rfl⟩
  have H7 := Lib.hid (fun w (hG : Ground w) => pAdd b i c g w hG h7)
  have H8 := Lib.hid (show g = 0 → (a ≤ b → x ≤ c) ∧ (b ≤ a → c ≤ x) from fun hg => add_order ha hb i1 i2 hj hx hxi (by rw [h7, hg]))
  have hv : v = 0 ∨ v = 13 := by
    rcases add_ways (a := a) (i := i + k) ha (by omega) (by omega) with ⟨e, _⟩ | ⟨_, _, e, _⟩
    · rw [e] at h5; right; exact (Prod.mk.inj h5).2.symm
    · rw [e] at h5; left; exact (Prod.mk.inj h5).2.symm
  have hg : g = 0 ∨ g = 13 := by
    rcases add_ways (a := b) (i := i) hb (by omega) (by omega) with ⟨e, _⟩ | ⟨_, _, e, _⟩
    · rw [e] at h7; right; exact (Prod.mk.inj h7).2.symm
    · rw [e] at h7; left; exact (Prod.mk.inj h7).2.symm
  have HQL := Lib.hid hQl
  have HGG := Lib.hid hg
  have HVV := Lib.hid hv
  clear hG ha hb hp hY hM hD hmo hin h1 hx hj hxi hmx hp2 hZ hP hQ hmo2 hl h5 h7 hQl hv hg
  by_cases hqd : Q < D
  · have hxl : (x != l) = false := by rw [bne_eq_false_iff_eq]; exact HQL.out hqd
    by_cases h28 : D ≤ 28
    · rcases HVV.out with rfl | rfl
      · have H66 := Lib.hid (H6.out rfl h28)
        rcases HGG.out with rfl | rfl
        · have ho := H8.out rfl
          clear HGG H8 HVV H6 HQL
          by_cases hab : a ≤ b
          · have hxc := ho.1 hab
            by_cases hba : b ≤ a
            · have hcx := ho.2 hba
              clear ho
              go_enter Tryd.func9, Tryd.ntmps9
              go_wp2_with fail
              refine (HVA.out _).mono ?_
              rintro _ _ ⟨rfl, rfl⟩
              go_wp2_with fail
              refine (HVB.out _).mono ?_
              rintro _ _ ⟨rfl, rfl⟩
              go_upto_region 4 with fail
              try rw [HI.out]
              try rw [HK.out]
              go_wp2_with fail
              refine (H1.out _ HG.out).mono ?_
              rintro _ _ ⟨rfl, rfl⟩
              go_wp2_with fail
              refine (H2.out _ HG.out).mono ?_
              rintro _ _ ⟨rfl, rfl⟩
              go_wp2_with fail
              refine (H3.out _ HG.out).mono ?_
              rintro _ _ ⟨rfl, rfl⟩
              go_wp2_with fail
              refine (H4.out _ HG.out).mono ?_
              rintro _ _ ⟨rfl, rfl⟩
              go_wp2_with fail
              refine (H5.out _ HG.out).mono ?_
              rintro _ _ ⟨rfl, rfl⟩
              go_wp2_with fail
              refine (H66.out _ HG.out).mono ?_
              rintro _ _ ⟨rfl, rfl⟩
              go_wp2_with fail
              refine (H7.out _ HG.out).mono ?_
              rintro _ _ ⟨rfl, rfl⟩
              go_wp2_with fail
              refine (HA.out _ HG.out).mono ?_
              rintro _ w5 ⟨rfl, hB5⟩
              have HG5 := Lib.hid (HG.out.below hB5)
              have HB5 := Lib.hid hB5
              clear hB5
              go_wp2_with fail
              go_ret
              exact ⟨rfl, HB5.out⟩
            · skip
              clear ho
              go_enter Tryd.func9, Tryd.ntmps9
              go_wp2_with fail
              refine (HVA.out _).mono ?_
              rintro _ _ ⟨rfl, rfl⟩
              go_wp2_with fail
              refine (HVB.out _).mono ?_
              rintro _ _ ⟨rfl, rfl⟩
              go_upto_region 4 with fail
              try rw [HI.out]
              try rw [HK.out]
              go_wp2_with fail
              refine (H1.out _ HG.out).mono ?_
              rintro _ _ ⟨rfl, rfl⟩
              go_wp2_with fail
              refine (H2.out _ HG.out).mono ?_
              rintro _ _ ⟨rfl, rfl⟩
              go_wp2_with fail
              refine (H3.out _ HG.out).mono ?_
              rintro _ _ ⟨rfl, rfl⟩
              go_wp2_with fail
              refine (H4.out _ HG.out).mono ?_
              rintro _ _ ⟨rfl, rfl⟩
              go_wp2_with fail
              refine (H5.out _ HG.out).mono ?_
              rintro _ _ ⟨rfl, rfl⟩
              go_wp2_with fail
              refine (H66.out _ HG.out).mono ?_
              rintro _ _ ⟨rfl, rfl⟩
              go_wp2_with fail
              refine (H7.out _ HG.out).mono ?_
              rintro _ _ ⟨rfl, rfl⟩
              go_wp2_with fail
              refine (HA.out _ HG.out).mono ?_
              rintro _ w6 ⟨rfl, hB6⟩
              have HG6 := Lib.hid (HG.out.below hB6)
              have HB6 := Lib.hid hB6
              clear hB6
              go_wp2_with fail
              go_ret
              exact ⟨rfl, HB6.out⟩
          · have hcx := ho.2 (by omega)
            clear ho
            go_enter Tryd.func9, Tryd.ntmps9
            go_wp2_with fail
            refine (HVA.out _).mono ?_
            rintro _ _ ⟨rfl, rfl⟩
            go_wp2_with fail
            refine (HVB.out _).mono ?_
            rintro _ _ ⟨rfl, rfl⟩
            go_upto_region 4 with fail
            try rw [HI.out]
            try rw [HK.out]
            go_wp2_with fail
            refine (H1.out _ HG.out).mono ?_
            rintro _ _ ⟨rfl, rfl⟩
            go_wp2_with fail
            refine (H2.out _ HG.out).mono ?_
            rintro _ _ ⟨rfl, rfl⟩
            go_wp2_with fail
            refine (H3.out _ HG.out).mono ?_
            rintro _ _ ⟨rfl, rfl⟩
            go_wp2_with fail
            refine (H4.out _ HG.out).mono ?_
            rintro _ _ ⟨rfl, rfl⟩
            go_wp2_with fail
            refine (H5.out _ HG.out).mono ?_
            rintro _ _ ⟨rfl, rfl⟩
            go_wp2_with fail
            refine (H66.out _ HG.out).mono ?_
            rintro _ _ ⟨rfl, rfl⟩
            go_wp2_with fail
            refine (H7.out _ HG.out).mono ?_
            rintro _ _ ⟨rfl, rfl⟩
            go_wp2_with fail
            refine (HA.out _ HG.out).mono ?_
            rintro _ w7 ⟨rfl, hB7⟩
            have HG7 := Lib.hid (HG.out.below hB7)
            have HB7 := Lib.hid hB7
            clear hB7
            go_wp2_with fail
            go_ret
            exact ⟨rfl, HB7.out⟩
        · clear HGG H8 HVV H6 HQL
          go_enter Tryd.func9, Tryd.ntmps9
          go_wp2_with fail
          refine (HVA.out _).mono ?_
          rintro _ _ ⟨rfl, rfl⟩
          go_wp2_with fail
          refine (HVB.out _).mono ?_
          rintro _ _ ⟨rfl, rfl⟩
          go_upto_region 4 with fail
          try rw [HI.out]
          try rw [HK.out]
          go_wp2_with fail
          refine (H1.out _ HG.out).mono ?_
          rintro _ _ ⟨rfl, rfl⟩
          go_wp2_with fail
          refine (H2.out _ HG.out).mono ?_
          rintro _ _ ⟨rfl, rfl⟩
          go_wp2_with fail
          refine (H3.out _ HG.out).mono ?_
          rintro _ _ ⟨rfl, rfl⟩
          go_wp2_with fail
          refine (H4.out _ HG.out).mono ?_
          rintro _ _ ⟨rfl, rfl⟩
          go_wp2_with fail
          refine (H5.out _ HG.out).mono ?_
          rintro _ _ ⟨rfl, rfl⟩
          go_wp2_with fail
          refine (H66.out _ HG.out).mono ?_
          rintro _ _ ⟨rfl, rfl⟩
          go_wp2_with fail
          refine (H7.out _ HG.out).mono ?_
          rintro _ _ ⟨rfl, rfl⟩
          go_wp2_with fail
          refine (HA.out _ HG.out).mono ?_
          rintro _ w8 ⟨rfl, hB8⟩
          have HG8 := Lib.hid (HG.out.below hB8)
          have HB8 := Lib.hid hB8
          clear hB8
          go_wp2_with fail
          go_ret
          exact ⟨rfl, HB8.out⟩
      · skip
        rcases HGG.out with rfl | rfl
        · have ho := H8.out rfl
          clear HGG H8 HVV H6 HQL
          by_cases hab : a ≤ b
          · have hxc := ho.1 hab
            by_cases hba : b ≤ a
            · have hcx := ho.2 hba
              clear ho
              go_enter Tryd.func9, Tryd.ntmps9
              go_wp2_with fail
              refine (HVA.out _).mono ?_
              rintro _ _ ⟨rfl, rfl⟩
              go_wp2_with fail
              refine (HVB.out _).mono ?_
              rintro _ _ ⟨rfl, rfl⟩
              go_upto_region 4 with fail
              try rw [HI.out]
              try rw [HK.out]
              go_wp2_with fail
              refine (H1.out _ HG.out).mono ?_
              rintro _ _ ⟨rfl, rfl⟩
              go_wp2_with fail
              refine (H2.out _ HG.out).mono ?_
              rintro _ _ ⟨rfl, rfl⟩
              go_wp2_with fail
              refine (H3.out _ HG.out).mono ?_
              rintro _ _ ⟨rfl, rfl⟩
              go_wp2_with fail
              refine (H4.out _ HG.out).mono ?_
              rintro _ _ ⟨rfl, rfl⟩
              go_wp2_with fail
              refine (H5.out _ HG.out).mono ?_
              rintro _ _ ⟨rfl, rfl⟩
              go_wp2_with fail
              refine (H7.out _ HG.out).mono ?_
              rintro _ _ ⟨rfl, rfl⟩
              go_wp2_with fail
              refine (HA.out _ HG.out).mono ?_
              rintro _ w9 ⟨rfl, hB9⟩
              have HG9 := Lib.hid (HG.out.below hB9)
              have HB9 := Lib.hid hB9
              clear hB9
              go_wp2_with fail
              go_ret
              exact ⟨rfl, HB9.out⟩
            · skip
              clear ho
              go_enter Tryd.func9, Tryd.ntmps9
              go_wp2_with fail
              refine (HVA.out _).mono ?_
              rintro _ _ ⟨rfl, rfl⟩
              go_wp2_with fail
              refine (HVB.out _).mono ?_
              rintro _ _ ⟨rfl, rfl⟩
              go_upto_region 4 with fail
              try rw [HI.out]
              try rw [HK.out]
              go_wp2_with fail
              refine (H1.out _ HG.out).mono ?_
              rintro _ _ ⟨rfl, rfl⟩
              go_wp2_with fail
              refine (H2.out _ HG.out).mono ?_
              rintro _ _ ⟨rfl, rfl⟩
              go_wp2_with fail
              refine (H3.out _ HG.out).mono ?_
              rintro _ _ ⟨rfl, rfl⟩
              go_wp2_with fail
              refine (H4.out _ HG.out).mono ?_
              rintro _ _ ⟨rfl, rfl⟩
              go_wp2_with fail
              refine (H5.out _ HG.out).mono ?_
              rintro _ _ ⟨rfl, rfl⟩
              go_wp2_with fail
              refine (H7.out _ HG.out).mono ?_
              rintro _ _ ⟨rfl, rfl⟩
              go_wp2_with fail
              refine (HA.out _ HG.out).mono ?_
              rintro _ w10 ⟨rfl, hB10⟩
              have HG10 := Lib.hid (HG.out.below hB10)
              have HB10 := Lib.hid hB10
              clear hB10
              go_wp2_with fail
              go_ret
              exact ⟨rfl, HB10.out⟩
          · have hcx := ho.2 (by omega)
            clear ho
            go_enter Tryd.func9, Tryd.ntmps9
            go_wp2_with fail
            refine (HVA.out _).mono ?_
            rintro _ _ ⟨rfl, rfl⟩
            go_wp2_with fail
            refine (HVB.out _).mono ?_
            rintro _ _ ⟨rfl, rfl⟩
            go_upto_region 4 with fail
            try rw [HI.out]
            try rw [HK.out]
            go_wp2_with fail
            refine (H1.out _ HG.out).mono ?_
            rintro _ _ ⟨rfl, rfl⟩
            go_wp2_with fail
            refine (H2.out _ HG.out).mono ?_
            rintro _ _ ⟨rfl, rfl⟩
            go_wp2_with fail
            refine (H3.out _ HG.out).mono ?_
            rintro _ _ ⟨rfl, rfl⟩
            go_wp2_with fail
            refine (H4.out _ HG.out).mono ?_
            rintro _ _ ⟨rfl, rfl⟩
            go_wp2_with fail
            refine (H5.out _ HG.out).mono ?_
            rintro _ _ ⟨rfl, rfl⟩
            go_wp2_with fail
            refine (H7.out _ HG.out).mono ?_
            rintro _ _ ⟨rfl, rfl⟩
            go_wp2_with fail
            refine (HA.out _ HG.out).mono ?_
            rintro _ w11 ⟨rfl, hB11⟩
            have HG11 := Lib.hid (HG.out.below hB11)
            have HB11 := Lib.hid hB11
            clear hB11
            go_wp2_with fail
            go_ret
            exact ⟨rfl, HB11.out⟩
        · clear HGG H8 HVV H6 HQL
          go_enter Tryd.func9, Tryd.ntmps9
          go_wp2_with fail
          refine (HVA.out _).mono ?_
          rintro _ _ ⟨rfl, rfl⟩
          go_wp2_with fail
          refine (HVB.out _).mono ?_
          rintro _ _ ⟨rfl, rfl⟩
          go_upto_region 4 with fail
          try rw [HI.out]
          try rw [HK.out]
          go_wp2_with fail
          refine (H1.out _ HG.out).mono ?_
          rintro _ _ ⟨rfl, rfl⟩
          go_wp2_with fail
          refine (H2.out _ HG.out).mono ?_
          rintro _ _ ⟨rfl, rfl⟩
          go_wp2_with fail
          refine (H3.out _ HG.out).mono ?_
          rintro _ _ ⟨rfl, rfl⟩
          go_wp2_with fail
          refine (H4.out _ HG.out).mono ?_
          rintro _ _ ⟨rfl, rfl⟩
          go_wp2_with fail
          refine (H5.out _ HG.out).mono ?_
          rintro _ _ ⟨rfl, rfl⟩
          go_wp2_with fail
          refine (H7.out _ HG.out).mono ?_
          rintro _ _ ⟨rfl, rfl⟩
          go_wp2_with fail
          refine (HA.out _ HG.out).mono ?_
          rintro _ w12 ⟨rfl, hB12⟩
          have HG12 := Lib.hid (HG.out.below hB12)
          have HB12 := Lib.hid hB12
          clear hB12
          go_wp2_with fail
          go_ret
          exact ⟨rfl, HB12.out⟩
    · skip
      rcases HGG.out with rfl | rfl
      · have ho := H8.out rfl
        clear HGG H8 HVV H6 HQL
        by_cases hab : a ≤ b
        · have hxc := ho.1 hab
          by_cases hba : b ≤ a
          · have hcx := ho.2 hba
            clear ho
            go_enter Tryd.func9, Tryd.ntmps9
            go_wp2_with fail
            refine (HVA.out _).mono ?_
            rintro _ _ ⟨rfl, rfl⟩
            go_wp2_with fail
            refine (HVB.out _).mono ?_
            rintro _ _ ⟨rfl, rfl⟩
            go_upto_region 4 with fail
            try rw [HI.out]
            try rw [HK.out]
            go_wp2_with fail
            refine (H1.out _ HG.out).mono ?_
            rintro _ _ ⟨rfl, rfl⟩
            go_wp2_with fail
            refine (H2.out _ HG.out).mono ?_
            rintro _ _ ⟨rfl, rfl⟩
            go_wp2_with fail
            refine (H3.out _ HG.out).mono ?_
            rintro _ _ ⟨rfl, rfl⟩
            go_wp2_with fail
            refine (H4.out _ HG.out).mono ?_
            rintro _ _ ⟨rfl, rfl⟩
            go_wp2_with fail
            refine (H5.out _ HG.out).mono ?_
            rintro _ _ ⟨rfl, rfl⟩
            go_wp2_with fail
            refine (H7.out _ HG.out).mono ?_
            rintro _ _ ⟨rfl, rfl⟩
            go_wp2_with fail
            refine (HA.out _ HG.out).mono ?_
            rintro _ w13 ⟨rfl, hB13⟩
            have HG13 := Lib.hid (HG.out.below hB13)
            have HB13 := Lib.hid hB13
            clear hB13
            go_wp2_with fail
            go_ret
            exact ⟨rfl, HB13.out⟩
          · skip
            clear ho
            go_enter Tryd.func9, Tryd.ntmps9
            go_wp2_with fail
            refine (HVA.out _).mono ?_
            rintro _ _ ⟨rfl, rfl⟩
            go_wp2_with fail
            refine (HVB.out _).mono ?_
            rintro _ _ ⟨rfl, rfl⟩
            go_upto_region 4 with fail
            try rw [HI.out]
            try rw [HK.out]
            go_wp2_with fail
            refine (H1.out _ HG.out).mono ?_
            rintro _ _ ⟨rfl, rfl⟩
            go_wp2_with fail
            refine (H2.out _ HG.out).mono ?_
            rintro _ _ ⟨rfl, rfl⟩
            go_wp2_with fail
            refine (H3.out _ HG.out).mono ?_
            rintro _ _ ⟨rfl, rfl⟩
            go_wp2_with fail
            refine (H4.out _ HG.out).mono ?_
            rintro _ _ ⟨rfl, rfl⟩
            go_wp2_with fail
            refine (H5.out _ HG.out).mono ?_
            rintro _ _ ⟨rfl, rfl⟩
            go_wp2_with fail
            refine (H7.out _ HG.out).mono ?_
            rintro _ _ ⟨rfl, rfl⟩
            go_wp2_with fail
            refine (HA.out _ HG.out).mono ?_
            rintro _ w14 ⟨rfl, hB14⟩
            have HG14 := Lib.hid (HG.out.below hB14)
            have HB14 := Lib.hid hB14
            clear hB14
            go_wp2_with fail
            go_ret
            exact ⟨rfl, HB14.out⟩
        · have hcx := ho.2 (by omega)
          clear ho
          go_enter Tryd.func9, Tryd.ntmps9
          go_wp2_with fail
          refine (HVA.out _).mono ?_
          rintro _ _ ⟨rfl, rfl⟩
          go_wp2_with fail
          refine (HVB.out _).mono ?_
          rintro _ _ ⟨rfl, rfl⟩
          go_upto_region 4 with fail
          try rw [HI.out]
          try rw [HK.out]
          go_wp2_with fail
          refine (H1.out _ HG.out).mono ?_
          rintro _ _ ⟨rfl, rfl⟩
          go_wp2_with fail
          refine (H2.out _ HG.out).mono ?_
          rintro _ _ ⟨rfl, rfl⟩
          go_wp2_with fail
          refine (H3.out _ HG.out).mono ?_
          rintro _ _ ⟨rfl, rfl⟩
          go_wp2_with fail
          refine (H4.out _ HG.out).mono ?_
          rintro _ _ ⟨rfl, rfl⟩
          go_wp2_with fail
          refine (H5.out _ HG.out).mono ?_
          rintro _ _ ⟨rfl, rfl⟩
          go_wp2_with fail
          refine (H7.out _ HG.out).mono ?_
          rintro _ _ ⟨rfl, rfl⟩
          go_wp2_with fail
          refine (HA.out _ HG.out).mono ?_
          rintro _ w15 ⟨rfl, hB15⟩
          have HG15 := Lib.hid (HG.out.below hB15)
          have HB15 := Lib.hid hB15
          clear hB15
          go_wp2_with fail
          go_ret
          exact ⟨rfl, HB15.out⟩
      · clear HGG H8 HVV H6 HQL
        go_enter Tryd.func9, Tryd.ntmps9
        go_wp2_with fail
        refine (HVA.out _).mono ?_
        rintro _ _ ⟨rfl, rfl⟩
        go_wp2_with fail
        refine (HVB.out _).mono ?_
        rintro _ _ ⟨rfl, rfl⟩
        go_upto_region 4 with fail
        try rw [HI.out]
        try rw [HK.out]
        go_wp2_with fail
        refine (H1.out _ HG.out).mono ?_
        rintro _ _ ⟨rfl, rfl⟩
        go_wp2_with fail
        refine (H2.out _ HG.out).mono ?_
        rintro _ _ ⟨rfl, rfl⟩
        go_wp2_with fail
        refine (H3.out _ HG.out).mono ?_
        rintro _ _ ⟨rfl, rfl⟩
        go_wp2_with fail
        refine (H4.out _ HG.out).mono ?_
        rintro _ _ ⟨rfl, rfl⟩
        go_wp2_with fail
        refine (H5.out _ HG.out).mono ?_
        rintro _ _ ⟨rfl, rfl⟩
        go_wp2_with fail
        refine (H7.out _ HG.out).mono ?_
        rintro _ _ ⟨rfl, rfl⟩
        go_wp2_with fail
        refine (HA.out _ HG.out).mono ?_
        rintro _ w16 ⟨rfl, hB16⟩
        have HG16 := Lib.hid (HG.out.below hB16)
        have HB16 := Lib.hid hB16
        clear hB16
        go_wp2_with fail
        go_ret
        exact ⟨rfl, HB16.out⟩
  · skip
    by_cases h28 : D ≤ 28
    · rcases HVV.out with rfl | rfl
      · have H66 := Lib.hid (H6.out rfl h28)
        rcases HGG.out with rfl | rfl
        · have ho := H8.out rfl
          clear HGG H8 HVV H6 HQL
          by_cases hab : a ≤ b
          · have hxc := ho.1 hab
            by_cases hba : b ≤ a
            · have hcx := ho.2 hba
              clear ho
              go_enter Tryd.func9, Tryd.ntmps9
              go_wp2_with fail
              refine (HVA.out _).mono ?_
              rintro _ _ ⟨rfl, rfl⟩
              go_wp2_with fail
              refine (HVB.out _).mono ?_
              rintro _ _ ⟨rfl, rfl⟩
              go_upto_region 4 with fail
              try rw [HI.out]
              try rw [HK.out]
              go_wp2_with fail
              refine (H1.out _ HG.out).mono ?_
              rintro _ _ ⟨rfl, rfl⟩
              go_wp2_with fail
              refine (H2.out _ HG.out).mono ?_
              rintro _ _ ⟨rfl, rfl⟩
              go_wp2_with fail
              refine (H3.out _ HG.out).mono ?_
              rintro _ _ ⟨rfl, rfl⟩
              go_wp2_with fail
              refine (H4.out _ HG.out).mono ?_
              rintro _ _ ⟨rfl, rfl⟩
              go_wp2_with fail
              refine (H5.out _ HG.out).mono ?_
              rintro _ _ ⟨rfl, rfl⟩
              go_wp2_with fail
              refine (H66.out _ HG.out).mono ?_
              rintro _ _ ⟨rfl, rfl⟩
              go_wp2_with fail
              refine (H7.out _ HG.out).mono ?_
              rintro _ _ ⟨rfl, rfl⟩
              go_wp2_with fail
              refine (HA.out _ HG.out).mono ?_
              rintro _ w17 ⟨rfl, hB17⟩
              have HG17 := Lib.hid (HG.out.below hB17)
              have HB17 := Lib.hid hB17
              clear hB17
              go_wp2_with fail
              go_ret
              exact ⟨rfl, HB17.out⟩
            · skip
              clear ho
              go_enter Tryd.func9, Tryd.ntmps9
              go_wp2_with fail
              refine (HVA.out _).mono ?_
              rintro _ _ ⟨rfl, rfl⟩
              go_wp2_with fail
              refine (HVB.out _).mono ?_
              rintro _ _ ⟨rfl, rfl⟩
              go_upto_region 4 with fail
              try rw [HI.out]
              try rw [HK.out]
              go_wp2_with fail
              refine (H1.out _ HG.out).mono ?_
              rintro _ _ ⟨rfl, rfl⟩
              go_wp2_with fail
              refine (H2.out _ HG.out).mono ?_
              rintro _ _ ⟨rfl, rfl⟩
              go_wp2_with fail
              refine (H3.out _ HG.out).mono ?_
              rintro _ _ ⟨rfl, rfl⟩
              go_wp2_with fail
              refine (H4.out _ HG.out).mono ?_
              rintro _ _ ⟨rfl, rfl⟩
              go_wp2_with fail
              refine (H5.out _ HG.out).mono ?_
              rintro _ _ ⟨rfl, rfl⟩
              go_wp2_with fail
              refine (H66.out _ HG.out).mono ?_
              rintro _ _ ⟨rfl, rfl⟩
              go_wp2_with fail
              refine (H7.out _ HG.out).mono ?_
              rintro _ _ ⟨rfl, rfl⟩
              go_wp2_with fail
              refine (HA.out _ HG.out).mono ?_
              rintro _ w18 ⟨rfl, hB18⟩
              have HG18 := Lib.hid (HG.out.below hB18)
              have HB18 := Lib.hid hB18
              clear hB18
              go_wp2_with fail
              go_ret
              exact ⟨rfl, HB18.out⟩
          · have hcx := ho.2 (by omega)
            clear ho
            go_enter Tryd.func9, Tryd.ntmps9
            go_wp2_with fail
            refine (HVA.out _).mono ?_
            rintro _ _ ⟨rfl, rfl⟩
            go_wp2_with fail
            refine (HVB.out _).mono ?_
            rintro _ _ ⟨rfl, rfl⟩
            go_upto_region 4 with fail
            try rw [HI.out]
            try rw [HK.out]
            go_wp2_with fail
            refine (H1.out _ HG.out).mono ?_
            rintro _ _ ⟨rfl, rfl⟩
            go_wp2_with fail
            refine (H2.out _ HG.out).mono ?_
            rintro _ _ ⟨rfl, rfl⟩
            go_wp2_with fail
            refine (H3.out _ HG.out).mono ?_
            rintro _ _ ⟨rfl, rfl⟩
            go_wp2_with fail
            refine (H4.out _ HG.out).mono ?_
            rintro _ _ ⟨rfl, rfl⟩
            go_wp2_with fail
            refine (H5.out _ HG.out).mono ?_
            rintro _ _ ⟨rfl, rfl⟩
            go_wp2_with fail
            refine (H66.out _ HG.out).mono ?_
            rintro _ _ ⟨rfl, rfl⟩
            go_wp2_with fail
            refine (H7.out _ HG.out).mono ?_
            rintro _ _ ⟨rfl, rfl⟩
            go_wp2_with fail
            refine (HA.out _ HG.out).mono ?_
            rintro _ w19 ⟨rfl, hB19⟩
            have HG19 := Lib.hid (HG.out.below hB19)
            have HB19 := Lib.hid hB19
            clear hB19
            go_wp2_with fail
            go_ret
            exact ⟨rfl, HB19.out⟩
        · clear HGG H8 HVV H6 HQL
          go_enter Tryd.func9, Tryd.ntmps9
          go_wp2_with fail
          refine (HVA.out _).mono ?_
          rintro _ _ ⟨rfl, rfl⟩
          go_wp2_with fail
          refine (HVB.out _).mono ?_
          rintro _ _ ⟨rfl, rfl⟩
          go_upto_region 4 with fail
          try rw [HI.out]
          try rw [HK.out]
          go_wp2_with fail
          refine (H1.out _ HG.out).mono ?_
          rintro _ _ ⟨rfl, rfl⟩
          go_wp2_with fail
          refine (H2.out _ HG.out).mono ?_
          rintro _ _ ⟨rfl, rfl⟩
          go_wp2_with fail
          refine (H3.out _ HG.out).mono ?_
          rintro _ _ ⟨rfl, rfl⟩
          go_wp2_with fail
          refine (H4.out _ HG.out).mono ?_
          rintro _ _ ⟨rfl, rfl⟩
          go_wp2_with fail
          refine (H5.out _ HG.out).mono ?_
          rintro _ _ ⟨rfl, rfl⟩
          go_wp2_with fail
          refine (H66.out _ HG.out).mono ?_
          rintro _ _ ⟨rfl, rfl⟩
          go_wp2_with fail
          refine (H7.out _ HG.out).mono ?_
          rintro _ _ ⟨rfl, rfl⟩
          go_wp2_with fail
          refine (HA.out _ HG.out).mono ?_
          rintro _ w20 ⟨rfl, hB20⟩
          have HG20 := Lib.hid (HG.out.below hB20)
          have HB20 := Lib.hid hB20
          clear hB20
          go_wp2_with fail
          go_ret
          exact ⟨rfl, HB20.out⟩
      · skip
        rcases HGG.out with rfl | rfl
        · have ho := H8.out rfl
          clear HGG H8 HVV H6 HQL
          by_cases hab : a ≤ b
          · have hxc := ho.1 hab
            by_cases hba : b ≤ a
            · have hcx := ho.2 hba
              clear ho
              go_enter Tryd.func9, Tryd.ntmps9
              go_wp2_with fail
              refine (HVA.out _).mono ?_
              rintro _ _ ⟨rfl, rfl⟩
              go_wp2_with fail
              refine (HVB.out _).mono ?_
              rintro _ _ ⟨rfl, rfl⟩
              go_upto_region 4 with fail
              try rw [HI.out]
              try rw [HK.out]
              go_wp2_with fail
              refine (H1.out _ HG.out).mono ?_
              rintro _ _ ⟨rfl, rfl⟩
              go_wp2_with fail
              refine (H2.out _ HG.out).mono ?_
              rintro _ _ ⟨rfl, rfl⟩
              go_wp2_with fail
              refine (H3.out _ HG.out).mono ?_
              rintro _ _ ⟨rfl, rfl⟩
              go_wp2_with fail
              refine (H4.out _ HG.out).mono ?_
              rintro _ _ ⟨rfl, rfl⟩
              go_wp2_with fail
              refine (H5.out _ HG.out).mono ?_
              rintro _ _ ⟨rfl, rfl⟩
              go_wp2_with fail
              refine (H7.out _ HG.out).mono ?_
              rintro _ _ ⟨rfl, rfl⟩
              go_wp2_with fail
              refine (HA.out _ HG.out).mono ?_
              rintro _ w21 ⟨rfl, hB21⟩
              have HG21 := Lib.hid (HG.out.below hB21)
              have HB21 := Lib.hid hB21
              clear hB21
              go_wp2_with fail
              go_ret
              exact ⟨rfl, HB21.out⟩
            · skip
              clear ho
              go_enter Tryd.func9, Tryd.ntmps9
              go_wp2_with fail
              refine (HVA.out _).mono ?_
              rintro _ _ ⟨rfl, rfl⟩
              go_wp2_with fail
              refine (HVB.out _).mono ?_
              rintro _ _ ⟨rfl, rfl⟩
              go_upto_region 4 with fail
              try rw [HI.out]
              try rw [HK.out]
              go_wp2_with fail
              refine (H1.out _ HG.out).mono ?_
              rintro _ _ ⟨rfl, rfl⟩
              go_wp2_with fail
              refine (H2.out _ HG.out).mono ?_
              rintro _ _ ⟨rfl, rfl⟩
              go_wp2_with fail
              refine (H3.out _ HG.out).mono ?_
              rintro _ _ ⟨rfl, rfl⟩
              go_wp2_with fail
              refine (H4.out _ HG.out).mono ?_
              rintro _ _ ⟨rfl, rfl⟩
              go_wp2_with fail
              refine (H5.out _ HG.out).mono ?_
              rintro _ _ ⟨rfl, rfl⟩
              go_wp2_with fail
              refine (H7.out _ HG.out).mono ?_
              rintro _ _ ⟨rfl, rfl⟩
              go_wp2_with fail
              refine (HA.out _ HG.out).mono ?_
              rintro _ w22 ⟨rfl, hB22⟩
              have HG22 := Lib.hid (HG.out.below hB22)
              have HB22 := Lib.hid hB22
              clear hB22
              go_wp2_with fail
              go_ret
              exact ⟨rfl, HB22.out⟩
          · have hcx := ho.2 (by omega)
            clear ho
            go_enter Tryd.func9, Tryd.ntmps9
            go_wp2_with fail
            refine (HVA.out _).mono ?_
            rintro _ _ ⟨rfl, rfl⟩
            go_wp2_with fail
            refine (HVB.out _).mono ?_
            rintro _ _ ⟨rfl, rfl⟩
            go_upto_region 4 with fail
            try rw [HI.out]
            try rw [HK.out]
            go_wp2_with fail
            refine (H1.out _ HG.out).mono ?_
            rintro _ _ ⟨rfl, rfl⟩
            go_wp2_with fail
            refine (H2.out _ HG.out).mono ?_
            rintro _ _ ⟨rfl, rfl⟩
            go_wp2_with fail
            refine (H3.out _ HG.out).mono ?_
            rintro _ _ ⟨rfl, rfl⟩
            go_wp2_with fail
            refine (H4.out _ HG.out).mono ?_
            rintro _ _ ⟨rfl, rfl⟩
            go_wp2_with fail
            refine (H5.out _ HG.out).mono ?_
            rintro _ _ ⟨rfl, rfl⟩
            go_wp2_with fail
            refine (H7.out _ HG.out).mono ?_
            rintro _ _ ⟨rfl, rfl⟩
            go_wp2_with fail
            refine (HA.out _ HG.out).mono ?_
            rintro _ w23 ⟨rfl, hB23⟩
            have HG23 := Lib.hid (HG.out.below hB23)
            have HB23 := Lib.hid hB23
            clear hB23
            go_wp2_with fail
            go_ret
            exact ⟨rfl, HB23.out⟩
        · clear HGG H8 HVV H6 HQL
          go_enter Tryd.func9, Tryd.ntmps9
          go_wp2_with fail
          refine (HVA.out _).mono ?_
          rintro _ _ ⟨rfl, rfl⟩
          go_wp2_with fail
          refine (HVB.out _).mono ?_
          rintro _ _ ⟨rfl, rfl⟩
          go_upto_region 4 with fail
          try rw [HI.out]
          try rw [HK.out]
          go_wp2_with fail
          refine (H1.out _ HG.out).mono ?_
          rintro _ _ ⟨rfl, rfl⟩
          go_wp2_with fail
          refine (H2.out _ HG.out).mono ?_
          rintro _ _ ⟨rfl, rfl⟩
          go_wp2_with fail
          refine (H3.out _ HG.out).mono ?_
          rintro _ _ ⟨rfl, rfl⟩
          go_wp2_with fail
          refine (H4.out _ HG.out).mono ?_
          rintro _ _ ⟨rfl, rfl⟩
          go_wp2_with fail
          refine (H5.out _ HG.out).mono ?_
          rintro _ _ ⟨rfl, rfl⟩
          go_wp2_with fail
          refine (H7.out _ HG.out).mono ?_
          rintro _ _ ⟨rfl, rfl⟩
          go_wp2_with fail
          refine (HA.out _ HG.out).mono ?_
          rintro _ w24 ⟨rfl, hB24⟩
          have HG24 := Lib.hid (HG.out.below hB24)
          have HB24 := Lib.hid hB24
          clear hB24
          go_wp2_with fail
          go_ret
          exact ⟨rfl, HB24.out⟩
    · skip
      rcases HGG.out with rfl | rfl
      · have ho := H8.out rfl
        clear HGG H8 HVV H6 HQL
        by_cases hab : a ≤ b
        · have hxc := ho.1 hab
          by_cases hba : b ≤ a
          · have hcx := ho.2 hba
            clear ho
            go_enter Tryd.func9, Tryd.ntmps9
            go_wp2_with fail
            refine (HVA.out _).mono ?_
            rintro _ _ ⟨rfl, rfl⟩
            go_wp2_with fail
            refine (HVB.out _).mono ?_
            rintro _ _ ⟨rfl, rfl⟩
            go_upto_region 4 with fail
            try rw [HI.out]
            try rw [HK.out]
            go_wp2_with fail
            refine (H1.out _ HG.out).mono ?_
            rintro _ _ ⟨rfl, rfl⟩
            go_wp2_with fail
            refine (H2.out _ HG.out).mono ?_
            rintro _ _ ⟨rfl, rfl⟩
            go_wp2_with fail
            refine (H3.out _ HG.out).mono ?_
            rintro _ _ ⟨rfl, rfl⟩
            go_wp2_with fail
            refine (H4.out _ HG.out).mono ?_
            rintro _ _ ⟨rfl, rfl⟩
            go_wp2_with fail
            refine (H5.out _ HG.out).mono ?_
            rintro _ _ ⟨rfl, rfl⟩
            go_wp2_with fail
            refine (H7.out _ HG.out).mono ?_
            rintro _ _ ⟨rfl, rfl⟩
            go_wp2_with fail
            refine (HA.out _ HG.out).mono ?_
            rintro _ w25 ⟨rfl, hB25⟩
            have HG25 := Lib.hid (HG.out.below hB25)
            have HB25 := Lib.hid hB25
            clear hB25
            go_wp2_with fail
            go_ret
            exact ⟨rfl, HB25.out⟩
          · skip
            clear ho
            go_enter Tryd.func9, Tryd.ntmps9
            go_wp2_with fail
            refine (HVA.out _).mono ?_
            rintro _ _ ⟨rfl, rfl⟩
            go_wp2_with fail
            refine (HVB.out _).mono ?_
            rintro _ _ ⟨rfl, rfl⟩
            go_upto_region 4 with fail
            try rw [HI.out]
            try rw [HK.out]
            go_wp2_with fail
            refine (H1.out _ HG.out).mono ?_
            rintro _ _ ⟨rfl, rfl⟩
            go_wp2_with fail
            refine (H2.out _ HG.out).mono ?_
            rintro _ _ ⟨rfl, rfl⟩
            go_wp2_with fail
            refine (H3.out _ HG.out).mono ?_
            rintro _ _ ⟨rfl, rfl⟩
            go_wp2_with fail
            refine (H4.out _ HG.out).mono ?_
            rintro _ _ ⟨rfl, rfl⟩
            go_wp2_with fail
            refine (H5.out _ HG.out).mono ?_
            rintro _ _ ⟨rfl, rfl⟩
            go_wp2_with fail
            refine (H7.out _ HG.out).mono ?_
            rintro _ _ ⟨rfl, rfl⟩
            go_wp2_with fail
            refine (HA.out _ HG.out).mono ?_
            rintro _ w26 ⟨rfl, hB26⟩
            have HG26 := Lib.hid (HG.out.below hB26)
            have HB26 := Lib.hid hB26
            clear hB26
            go_wp2_with fail
            go_ret
            exact ⟨rfl, HB26.out⟩
        · have hcx := ho.2 (by omega)
          clear ho
          go_enter Tryd.func9, Tryd.ntmps9
          go_wp2_with fail
          refine (HVA.out _).mono ?_
          rintro _ _ ⟨rfl, rfl⟩
          go_wp2_with fail
          refine (HVB.out _).mono ?_
          rintro _ _ ⟨rfl, rfl⟩
          go_upto_region 4 with fail
          try rw [HI.out]
          try rw [HK.out]
          go_wp2_with fail
          refine (H1.out _ HG.out).mono ?_
          rintro _ _ ⟨rfl, rfl⟩
          go_wp2_with fail
          refine (H2.out _ HG.out).mono ?_
          rintro _ _ ⟨rfl, rfl⟩
          go_wp2_with fail
          refine (H3.out _ HG.out).mono ?_
          rintro _ _ ⟨rfl, rfl⟩
          go_wp2_with fail
          refine (H4.out _ HG.out).mono ?_
          rintro _ _ ⟨rfl, rfl⟩
          go_wp2_with fail
          refine (H5.out _ HG.out).mono ?_
          rintro _ _ ⟨rfl, rfl⟩
          go_wp2_with fail
          refine (H7.out _ HG.out).mono ?_
          rintro _ _ ⟨rfl, rfl⟩
          go_wp2_with fail
          refine (HA.out _ HG.out).mono ?_
          rintro _ w27 ⟨rfl, hB27⟩
          have HG27 := Lib.hid (HG.out.below hB27)
          have HB27 := Lib.hid hB27
          clear hB27
          go_wp2_with fail
          go_ret
          exact ⟨rfl, HB27.out⟩
      · clear HGG H8 HVV H6 HQL
        go_enter Tryd.func9, Tryd.ntmps9
        go_wp2_with fail
        refine (HVA.out _).mono ?_
        rintro _ _ ⟨rfl, rfl⟩
        go_wp2_with fail
        refine (HVB.out _).mono ?_
        rintro _ _ ⟨rfl, rfl⟩
        go_upto_region 4 with fail
        try rw [HI.out]
        try rw [HK.out]
        go_wp2_with fail
        refine (H1.out _ HG.out).mono ?_
        rintro _ _ ⟨rfl, rfl⟩
        go_wp2_with fail
        refine (H2.out _ HG.out).mono ?_
        rintro _ _ ⟨rfl, rfl⟩
        go_wp2_with fail
        refine (H3.out _ HG.out).mono ?_
        rintro _ _ ⟨rfl, rfl⟩
        go_wp2_with fail
        refine (H4.out _ HG.out).mono ?_
        rintro _ _ ⟨rfl, rfl⟩
        go_wp2_with fail
        refine (H5.out _ HG.out).mono ?_
        rintro _ _ ⟨rfl, rfl⟩
        go_wp2_with fail
        refine (H7.out _ HG.out).mono ?_
        rintro _ _ ⟨rfl, rfl⟩
        go_wp2_with fail
        refine (HA.out _ HG.out).mono ?_
        rintro _ w28 ⟨rfl, hB28⟩
        have HG28 := Lib.hid (HG.out.below hB28)
        have HB28 := Lib.hid hB28
        clear hB28
        go_wp2_with fail
        go_ret
        exact ⟨rfl, HB28.out⟩

end Go.Proofs.YtgpjadlnfofppaaDoor
