/- the law AllocateBegins: the walk. -/
import Derived.Test.YthhihdihkddakaaGreatDoorMSums
namespace Go.Proofs.YthhihdihkddakaaGreatDoor
open Go.RowKit Fra

theorem sumS_congr {s u : Nat → ByteArray} : ∀ {k : Nat}, (∀ i, i < k → u i = s i) → sumS u k = sumS s k
  | 0, _ => rfl
  | k + 1, h => by rw [sumS_succ, sumS_succ, sumS_congr (fun i hi => h i (by omega)), h k (by omega)]
theorem run_beginS {t : ByteArray} {n : Nat} {s : Nat → ByteArray} (k : Nat) : sumS (fun i => cS (Num.runP (vS t) (Num.sumN (wtN s) n) (wtN s) i)) k = flo (vS t) (Num.sumN (wtN s) n) (wtN s) k := by
  unfold sumS
  simp only [vS_cS]
  exact Num.run_begin _ _ _ _

set_option maxRecDepth 100000 in
set_option maxHeartbeats 16000000 in
theorem abe_long1 (t : ByteArray) (xa : Option Addr) (n cap : Nat) (e : Nat) (w : World) (hG : Ground w) (ht : over t = true) :
    Calls Tryz.prog 11 #[.string t, .slice xa n cap, .int .u8 (e : Nat)] w fun r w' => r = .returned (.bool true) ∧ Below w.heap.size w w' := by
  have HL := Lib.hid (rGreat_lit w hG [t] (by simp))
  simp only [List.length_cons, List.length_nil, Nat.zero_add, List.map_cons, List.map_nil] at HL
  rw [great1, ht] at HL
  have HG := Lib.hid hG
  have HAW := Lib.hid aawake
  clear ht hG
  go_enter Tryz.func11, Tryz.ntmps11
  go_wp2_with fail
  refine HL.out.mono ?_
  rintro _ w0 ⟨rfl, hb⟩
  go_wp2_with fail
  refine (HAW.out _ (HG.out.below hb)).mono ?_
  rintro _ _ ⟨rfl, hB⟩
  replace hb := hb.trans (hB.mono hb.size)
  clear hB
  go_wp2_with fail
  go_ret
  exact ⟨rfl, hb⟩

set_option maxRecDepth 100000 in
set_option maxHeartbeats 16000000 in
theorem abe_long2 (t : ByteArray) (xa : Option Addr) (n cap : Nat) (s : Nat → ByteArray) (e : Nat) (w : World) (hG : Ground w) (hr : Rs w xa n s) (hmax : n ≤ 9223372036854775807) (ht : over t = false) (hl : great n s = true) :
    Calls Tryz.prog 11 #[.string t, .slice xa n cap, .int .u8 (e : Nat)] w fun r w' => r = .returned (.bool true) ∧ Below w.heap.size w w' := by
  have HL := Lib.hid (rGreat_lit w hG [t] (by simp))
  simp only [List.length_cons, List.length_nil, Nat.zero_add, List.map_cons, List.map_nil] at HL
  rw [great1, ht] at HL
  have HG := Lib.hid hG
  have HAW := Lib.hid aawake
  have HR := Lib.hid hr
  have HGR := Lib.hid (fun W hG hr => rGreat W hG xa n cap s hr hmax)
  rw [hl] at HGR
  clear ht hG hr hmax hl
  go_enter Tryz.func11, Tryz.ntmps11
  go_wp2_with fail
  refine HL.out.mono ?_
  rintro _ w0 ⟨rfl, hb⟩
  go_wp2_with fail
  refine (HGR.out _ (HG.out.below hb) (HR.out.belowAt hb (Nat.le_refl _))).mono ?_
  rintro _ _ ⟨rfl, hB⟩
  replace hb := hb.trans (hB.mono hb.size)
  clear hB
  go_wp2_with fail
  refine (HAW.out _ (HG.out.below hb)).mono ?_
  rintro _ _ ⟨rfl, hB⟩
  replace hb := hb.trans (hB.mono hb.size)
  clear hB
  go_wp2_with fail
  go_ret
  exact ⟨rfl, hb⟩

set_option maxRecDepth 100000 in
set_option maxHeartbeats 16000000 in
theorem abe_bad (t : ByteArray) (xa : Option Addr) (n cap : Nat) (s : Nat → ByteArray) (e : Nat) (w : World) (hG : Ground w) (hr : Rs w xa n s) (hmax : n ≤ 9223372036854775807) (ht : over t = false) (hl : great n s = false) (hf : FitW n t s) (h : weighE t n s ≠ 0) :
    Calls Tryz.prog 11 #[.string t, .slice xa n cap, .int .u8 (e : Nat)] w fun r w' => r = .returned (.bool true) ∧ Below w.heap.size w w' := by
  have HL := Lib.hid (rGreat_lit w hG [t] (by simp))
  simp only [List.length_cons, List.length_nil, Nat.zero_add, List.map_cons, List.map_nil] at HL
  rw [great1, ht] at HL
  have HG := Lib.hid hG
  have HAW := Lib.hid aawake
  have HR := Lib.hid hr
  have HGR := Lib.hid (fun W hG hr => rGreat W hG xa n cap s hr hmax)
  rw [hl] at HGR
  have HN := Lib.hid (fun W hG hr => aRun_bad W hG t xa n cap s hr hf h)
  obtain ⟨c, hc⟩ : ∃ c, weighE t n s = c := ⟨_, rfl⟩
  rw [hc] at HN
  have hb1 : (c != 0) = true := by rw [bne_iff_ne, ← hc]; exact h
  unfold nilE at HN
  clear ht hG hr hmax hl hf h hc
  go_enter Tryz.func11, Tryz.ntmps11
  go_wp2_with fail
  refine HL.out.mono ?_
  rintro _ w0 ⟨rfl, hb⟩
  go_wp2_with fail
  refine (HGR.out _ (HG.out.below hb) (HR.out.belowAt hb (Nat.le_refl _))).mono ?_
  rintro _ _ ⟨rfl, hB⟩
  replace hb := hb.trans (hB.mono hb.size)
  clear hB
  go_wp2_with fail
  refine (HN.out _ (HG.out.below hb) (HR.out.belowAt hb (Nat.le_refl _))).mono ?_
  rintro _ _ ⟨rfl, hB⟩
  replace hb := hb.trans (hB.mono hb.size)
  clear hB
  go_wp2_with fail
  refine (HAW.out _ (HG.out.below hb)).mono ?_
  rintro _ _ ⟨rfl, hB⟩
  replace hb := hb.trans (hB.mono hb.size)
  clear hB
  go_wp2_with fail
  go_ret
  exact ⟨rfl, hb⟩

set_option maxRecDepth 100000 in
set_option maxHeartbeats 16000000 in
theorem abe_ok (t : ByteArray) (xa : Option Addr) (n cap : Nat) (s : Nat → ByteArray) (e : Nat) (w : World) (hG : Ground w) (hr : Rs w xa n s) (hmax : n ≤ 9223372036854775807) (ht : over t = false) (hl : great n s = false) (hf : FitW n t s) (h : weighE t n s = 0) (ht30 : t.size ≤ 30) (he : e ≤ 255) (hnc : n ≤ cap) :
    Calls Tryz.prog 11 #[.string t, .slice xa n cap, .int .u8 (e : Nat)] w fun r w' => r = .returned (.bool true) ∧ Below w.heap.size w w' := by
  have HL := Lib.hid (rGreat_lit w hG [t] (by simp))
  simp only [List.length_cons, List.length_nil, Nat.zero_add, List.map_cons, List.map_nil] at HL
  rw [great1, ht] at HL
  have HG := Lib.hid hG
  have HAW := Lib.hid aawake
  have HR := Lib.hid hr
  have HGR := Lib.hid (fun W hG hr => rGreat W hG xa n cap s hr hmax)
  rw [hl] at HGR
  have hgd := weighE_zero h
  have hd := hgd.data hf
  obtain ⟨c, hc1, hdiv⟩ := hd.divc
  have hn := hdiv.few
  have hn1 := hdiv.pos
  have HN := Lib.hid (fun W hG hr => aRun_ok W hG t xa n cap s hr hf h)
  obtain ⟨k, hk⟩ : ∃ k, 1 + e % n = k := ⟨_, rfl⟩
  have hk0 : e % n < n := Nat.mod_lt _ (by omega)
  have hk1 : 1 ≤ k := by omega
  have hkn : k ≤ n := by omega
  have hcb : ∀ i, i < n → Cap 31 (Num.runP (vS t) (Num.sumN (wtN s) n) (wtN s) i) := fun i hi => hdiv.near_cap hi (Num.run_near hdiv.w0) (Cap.of ht30 rfl) (by decide)
  have hbeg := run_beginS (t := t) (n := n) (s := s) k
  have hss : ∀ j, j ≤ n → sumS s j = (Num.sumN (wtN s) j : Nat) := fun j hj => sumS_wt fun i hi => hgd.nn i (by omega)
  have hfit := hf.fit hgd.few
  have hfitk : Fit k 1000 s := ⟨by omega, hfit.c1, hfit.c2, fun i hi => hfit.cap i (by omega), fun i hi => hfit.size i (by omega)⟩
  obtain ⟨T, hT⟩ : ∃ T, vS t = T := ⟨_, rfl⟩
  obtain ⟨W, hW⟩ : ∃ W, Num.sumN (wtN s) n = W := ⟨_, rfl⟩
  obtain ⟨m, hm⟩ : ∃ m, Num.sumN (wtN s) k = m := ⟨_, rfl⟩
  have hmT := hdiv.mulT (T := vS t) rfl hkn
  have hflo := hdiv.flo (T := vS t) rfl hkn
  have hc2 := hdiv.c2
  have hw0 := hdiv.w0
  have hcW := hdiv.capW
  have HSK := Lib.hid (fun W hG hr => rSum xa k cap 1000 s W hG hr hfitk)
  have HSN := Lib.hid (fun W hG hr => rSum xa n cap 1000 s W hG hr hfit)
  rw [hss k hkn, hm] at HSK
  rw [hss n (Nat.le_refl _), hW] at HSN
  rw [hT, hm] at hmT
  rw [hT, hW] at HN hbeg hflo hcb
  obtain ⟨B, hB⟩ : ∃ B, Num.runP T W (wtN s) = B := ⟨_, rfl⟩
  rw [hB] at HN hbeg hcb
  have fb : Fit k 31 (fun i => cS (B i)) := ⟨by omega, by decide, by decide, fun i hi => by rw [vS_cS]; exact hcb i (by omega), fun i hi => by have := cS_size (hcb i (by omega)); omega⟩
  have HSB := Lib.hid (fun W' P hG hr => rSum (some ⟨P, 0, none⟩) k n 31 _ W' hG hr fb)
  rw [hbeg] at HSB
  rw [hW] at hw0 hcW
  have hmk : m < 10 ^ c := by have := sumN_le (f := wtN s) hkn; omega
  have HML := Lib.hid (fun W' hG => mul_v (a := t) (b := cS (m : Nat)) (z := T * (m : Nat)) W' hG (by have := hf.t1; omega) (natS_size hmk (by omega)) hT (vS_cS _) rfl)
  obtain ⟨z, hz⟩ : ∃ z, redS (T * (m : Nat)) (W : Nat) = z := ⟨_, rfl⟩
  have hzr : z = red (T * (m : Nat)) (W : Nat) := by rw [← hz]; exact redS_red (by omega)
  have hzp : 0 < z.2 := by rw [hzr]; exact red_pos (by omega)
  have hzc : CapP (c + c) z := by rw [hzr]; exact CapP.of_red (by omega) hmT (Cap.mono (k := c) (by unfold Cap; omega) (by omega))
  have HNW := Lib.hid (fun W' hG => fNew_v (z := z) W' hG (a := cS (T * (m : Nat))) (b := cS (W : Nat)) (by have := cS_size hmT; omega) (by have := cS_size (z := (W : Int)) (k := c) (by omega); omega) (vS_cS _) (vS_cS _) (by omega) hz)
  have hfz : Int.fdiv z.1 z.2 = flo T W (wtN s) k := by
    rw [hzr]
    unfold flo
    rw [hm]
    exact floor_congr (x := red (T * (m : Nat)) (W : Nat)) (y := (T * (m : Nat), (W : Nat))) (red_pos (by omega)) (by simp only; omega) (same_red _ _)
  have HFL := Lib.hid (fun W' hG => fFloor_v W' hG (Val.of hzc hzp (by omega)) hfz)
  have hw2 : IntKind.i64.wrap (1 + (e : Int) % (n : Int)) = (k : Int) := by rw [show (1 : Int) + (e : Int) % (n : Int) = (k : Int) by omega]; exact IntWalk.i64_in _ (by omega)
  have hk0z : (0 : Int) ≤ (k : Int) := by omega
  have hkc : (k : Int) ≤ (cap : Int) := by omega
  have hkn2 : (k : Int) ≤ (n : Int) := by omega
  have hn0 : (n : Int) ≠ 0 := by omega
  have hz1 : ((n : Int) == 0) = false := by rw [beq_eq_false_iff_ne]; omega
  have he1 : IntKind.i64.wrap (e : Int) = (e : Int) := IntWalk.i64_in _ (by omega)
  obtain ⟨x, hx⟩ : ∃ x, z.1 = x := ⟨_, rfl⟩
  obtain ⟨sn, hsn⟩ : ∃ y, cS z.1 = y := ⟨_, rfl⟩
  obtain ⟨sd, hsd⟩ : ∃ y, cD z.2 = y := ⟨_, rfl⟩
  unfold StrPost at HSK HSN HSB HML HFL
  rw [hsn, hsd] at HNW HFL
  clear ht hG hmax hl hf h hgd hd hdiv hcb hbeg hss hfit hfitk hT hW hm hmT hflo hc2 hw0 hcW hB fb hmk hz hzr hzp hzc hfz hx hsn hsd hk hc1 ht30 hk0
  obtain ⟨ab, ao, rfl, hab, _⟩ := Rs.at hr (show 0 < n by omega)
  clear hr hab
  go_enter Tryz.func11, Tryz.ntmps11
  go_wp2_with fail
  refine HL.out.mono ?_
  rintro _ w0 ⟨rfl, hb⟩
  go_wp2_with fail
  refine (HGR.out _ (HG.out.below hb) (HR.out.belowAt hb (Nat.le_refl _))).mono ?_
  rintro _ _ ⟨rfl, hB⟩
  replace hb := hb.trans (hB.mono hb.size)
  clear hB
  go_wp2_with fail
  refine (HN.out _ (HG.out.below hb) (HR.out.belowAt hb (Nat.le_refl _))).mono ?_
  rintro _ w3 ⟨Q, rfl, hQ, hB⟩
  have hq : Rs w3 (some ⟨Q, 0, none⟩) n (fun i => cS (B i)) := hQ.rc
  replace hb := hb.trans (hB.mono hb.size)
  clear hB hQ HN
  go_wp2_with fail
  refine (HSB.out _ Q (HG.out.below hb) (Rc.prefix hq hkn)).mono ?_
  rintro _ _ ⟨rfl, hB⟩
  replace hb := hb.trans (hB.mono hb.size)
  clear hB HSB hq
  go_wp2_with fail
  refine (HSK.out _ (HG.out.below hb) (Rc.prefix (HR.out.belowAt hb (Nat.le_refl _)) hkn)).mono ?_
  rintro _ _ ⟨rfl, hB⟩
  replace hb := hb.trans (hB.mono hb.size)
  clear hB HSK
  go_wp2_with fail
  refine (HML.out _ (HG.out.below hb)).mono ?_
  rintro _ _ ⟨rfl, hB⟩
  replace hb := hb.trans (hB.mono hb.size)
  clear hB
  go_wp2_with fail
  refine (HSN.out _ (HG.out.below hb) (HR.out.belowAt hb (Nat.le_refl _))).mono ?_
  rintro _ _ ⟨rfl, hB⟩
  replace hb := hb.trans (hB.mono hb.size)
  clear hB
  go_wp2_with fail
  refine (HNW.out _ (HG.out.below hb)).mono ?_
  rintro _ w8 ⟨rfl, hB⟩
  replace hb := hb.trans (hB.mono hb.size)
  clear hB HNW
  go_upto_region 9 with fail
  obtain ⟨W9, hW9⟩ : ∃ W9, W9 = w8.alloc (.cells #[.string sn, .string sd] 36) := ⟨_, rfl⟩
  have hP : PairAt W9 w8.heap.size 36 sn sd := by rw [hW9]; exact PairAt.made _ _ _ _
  replace hb : Below w.heap.size w W9 := by rw [hW9]; exact hb.alloc hb.size _
  rw [← hW9]
  clear hW9
  obtain ⟨k0, k1, _, _⟩ := hP.cells
  go_wp2_with fail
  refine (HFL.out _ (HG.out.below hb)).mono ?_
  rintro _ _ ⟨rfl, hB⟩
  replace hb := hb.trans (hB.mono hb.size)
  clear hB k0 k1 hP
  go_wp2_with fail
  refine (HAW.out _ (HG.out.below hb)).mono ?_
  rintro _ _ ⟨rfl, hB⟩
  replace hb := hb.trans (hB.mono hb.size)
  clear hB
  go_wp2_with fail
  go_ret
  exact ⟨rfl, hb⟩

theorem abe_any (t : ByteArray) (xa : Option Addr) (n cap : Nat) (s : Nat → ByteArray) (b : Int) (w : World) (hG : Ground w) (hr : Rs w xa n s) (hmax : n ≤ 9223372036854775807) (hnc : n ≤ cap) (h0 : 0 ≤ b) (h1 : b ≤ 255) :
    Calls Tryz.prog 11 #[.string t, .slice xa n cap, .int .u8 b] w fun r w' => r = .returned (.bool true) ∧ Below w.heap.size w w' := by
  obtain ⟨e, rfl⟩ : ∃ e : Nat, b = e := ⟨b.toNat, by omega⟩
  cases ht : over t with
  | true => exact abe_long1 t xa n cap e w hG ht
  | false =>
    cases hl : great n s with
    | true => exact abe_long2 t xa n cap s e w hG hr hmax ht hl
    | false =>
      obtain ⟨hf, ht30⟩ := fitW_of ht hl
      by_cases h : weighE t n s = 0
      · exact abe_ok t xa n cap s e w hG hr hmax ht hl hf h ht30 (by omega) hnc
      · exact abe_bad t xa n cap s e w hG hr hmax ht hl hf h

end Go.Proofs.YthhihdihkddakaaGreatDoor
