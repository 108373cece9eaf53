/- the law DecimalRoundTrip: the walk. -/
import Derived.Test.YtlonbfddhfacmaaGreatDoorDE
import Derived.Deep.DeepCutAuto
import Derived.Laws.NewBlocks
namespace Go.Proofs.YtlonbfddhfacmaaGreatDoor
open Go.RowKit Fra

set_option maxRecDepth 100000 in
set_option maxHeartbeats 16000000 in
theorem drt_long (n : ByteArray) (k : Int) (w : World) (hG : Ground w) (hl : longS n = true) :
    Calls Tryz.prog 9 #[.string n, .int .i64 k] w fun e w' => e = .returned (.bool true) ∧ Below w.heap.size w w' := by
  have HL := Lib.hid hl
  have HAW := Lib.hid dawake_any
  clear hl
  have hS : StL w w [] := StL.zero hG
  go_enter Tryz.func9, Tryz.ntmps9
  go_wp2_with fail
  refine Calls.mono (rLongI n w) ?_
  rintro _ _ ⟨rfl, rfl⟩
  rw [HL.out]
  go_wp2_with fail
  refine Calls.mono (Ret.call HAW.out _ hS.g) ?_
  rintro _ w1 ⟨rfl, hB⟩
  replace hS := hS.next hB
  clear hB
  go_wp2_with fail
  go_ret
  exact ⟨rfl, hS.below⟩

set_option maxRecDepth 100000 in
set_option maxHeartbeats 16000000 in
theorem drt_lo (n : ByteArray) (k : Int) (w : World) (hG : Ground w) (hl : longS n = false) (h1 : k < 0) :
    Calls Tryz.prog 9 #[.string n, .int .i64 k] w fun e w' => e = .returned (.bool true) ∧ Below w.heap.size w w' := by
  have HL := Lib.hid hl
  have HAW := Lib.hid dawake_any
  have HT := Lib.hid (text_range n (okP_false (n := k) (by omega)))
  clear hl
  have hS : StL w w [] := StL.zero hG
  go_enter Tryz.func9, Tryz.ntmps9
  go_wp2_with fail
  refine Calls.mono (rLongI n w) ?_
  rintro _ _ ⟨rfl, rfl⟩
  rw [HL.out]
  go_wp2_with fail
  refine Calls.mono (Ret.call HT.out _ hS.g) ?_
  rintro _ w1 ⟨rfl, hB⟩
  replace hS := hS.next hB
  clear hB
  go_wp2_with fail
  refine Calls.mono (Ret.call HAW.out _ hS.g) ?_
  rintro _ w2 ⟨rfl, hB⟩
  replace hS := hS.next hB
  clear hB
  go_wp2_with fail
  go_ret
  exact ⟨rfl, hS.below⟩

set_option maxRecDepth 100000 in
set_option maxHeartbeats 16000000 in
theorem drt_hi (n : ByteArray) (k : Int) (w : World) (hG : Ground w) (hl : longS n = false) (h1 : ¬ k < 0) (h2 : 12 < k) :
    Calls Tryz.prog 9 #[.string n, .int .i64 k] w fun e w' => e = .returned (.bool true) ∧ Below w.heap.size w w' := by
  have HL := Lib.hid hl
  have HAW := Lib.hid dawake_any
  have HT := Lib.hid (text_range n (okP_false (n := k) (by omega)))
  clear hl
  have hS : StL w w [] := StL.zero hG
  go_enter Tryz.func9, Tryz.ntmps9
  go_wp2_with fail
  refine Calls.mono (rLongI n w) ?_
  rintro _ _ ⟨rfl, rfl⟩
  rw [HL.out]
  go_wp2_with fail
  refine Calls.mono (Ret.call HT.out _ hS.g) ?_
  rintro _ w1 ⟨rfl, hB⟩
  replace hS := hS.next hB
  clear hB
  go_wp2_with fail
  refine Calls.mono (Ret.call HAW.out _ hS.g) ?_
  rintro _ w2 ⟨rfl, hB⟩
  replace hS := hS.next hB
  clear hB
  go_wp2_with fail
  go_ret
  exact ⟨rfl, hS.below⟩

set_option maxRecDepth 100000 in
set_option maxHeartbeats 16000000 in
theorem drt_zero (n : ByteArray) (k : Int) (w : World) (hG : Ground w) (hn : n.size ≤ 60) (h1 : k = 0) :
    Calls Tryz.prog 9 #[.string n, .int .i64 k] w fun e w' => e = .returned (.bool true) ∧ Below w.heap.size w w' := by
  have HL := Lib.hid (longS_false (s := n) (by omega))
  have HAW := Lib.hid dawake_any
  obtain ⟨p, hp⟩ : ∃ p : Nat, k = p := ⟨k.toNat, by omega⟩
  obtain ⟨z, hz⟩ : ∃ z, vS n = z := ⟨_, rfl⟩
  have hp12 : p ≤ 12 := by omega
  have hcz : Cap 60 z := Cap.of hn hz
  obtain ⟨S, hS⟩ : ∃ S, S = txt z p := ⟨_, rfl⟩
  have hSs : S.size ≤ 65536 := by rw [hS]; have := txt_size p hcz; omega
  have hSd : isDecS S = true := by rw [hS]; exact isDec_txt z p
  have hSu : unitsD S = z := by rw [hS]; exact units_txt z p
  have hSp : placesD S = p := by rw [hS]; exact places_txt z p
  obtain ⟨x, hx⟩ : ∃ x, low (z, (10 : Int) ^ p) = x := ⟨_, rfl⟩
  obtain ⟨t, ht⟩ : ∃ t, (10 : Int) ^ p = t := ⟨_, rfl⟩
  have HT := Lib.hid (show Ret 21 #[.string n, .int .i64 k] (two S 0) by rw [hp, hS]; exact text_ok (by omega) hz hp12)
  have HPA := Lib.hid (show Ret 23 #[.string S, .int .i64 k] (two (cS z) 0) by rw [hp]; exact dParse_ok hSs hSd hp12 (by rw [hSu, hSp]))
  have HFR := Lib.hid (show Ret 25 #[.string S] (fraE (cS x.1) (cD x.2) 0) from fraction_ok hSs hSd (by rw [hSu, hSp]; exact hx))
  have HPW := Lib.hid (show Ret 40 #[.string ⟨#[49, 48]⟩, .int .i64 k] (two (cS t) 0) by rw [hp, ← ht]; exact power_ten hp12)
  have HCN := Lib.hid (canon_ret (s := n) (z := z) (by omega) hz)
  have HCT := Lib.hid (show (cS t).size ≤ 100000 by rw [← ht]; have := tens_size p; omega)
  have hfv := frac_val (p := p) hcz (by omega)
  rw [hx] at hfv
  have HXV := Lib.hid (show Val (cS x.1) (cD x.2) x from Val.of hfv.1 hfv.2 (by decide))
  have HTV := Lib.hid (show Val (cS t) ⟨#[]⟩ (t, 1) by rw [← ht]; exact tens_val (by omega))
  have HMU := Lib.hid (show mulP x (t, 1) = (z, 1) by rw [← hx, ← ht]; exact text_value)
  have HNS := Lib.hid (show n.size ≤ 100000 by omega)
  have HZV := Lib.hid hz
  have HV1 := Lib.hid (show Val (cS (z, (1 : Int)).1) (cD (z, (1 : Int)).2) (z, 1) from Val.of (k := 60) (int_capP hcz (by decide)) Int.one_pos (by decide))
  have HV2 := Lib.hid (int_val hcz (by decide))
  have HC0 := Lib.hid (cmp_same (z, 1))
  have HCU := Lib.hid (cut_ret (c := decide (0 < p)) hSs (by rw [hS]; exact dot_txt z p))
  obtain ⟨a, ha⟩ : ∃ a, a = befS S := ⟨_, rfl⟩
  obtain ⟨b, hb⟩ : ∃ b, b = behS S := ⟨_, rfl⟩
  have hbk : (b.size : Int) = k := by rw [hb, behS_good, hSp, hp]
  rw [← ha, ← hb] at HCU
  have HPB := Lib.hid (show Ret 23 #[.string S, .int .i64 (k + 1)] (two (cS (z * 10)) 0) by
    rw [hp, show (p : Int) + 1 = ((p + 1 : Nat) : Int) by omega]
    exact dParse_ok hSs hSd (by omega) (by rw [hSu, hSp, Int.pow_succ, Int.mul_comm ((10 : Int) ^ p) 10, Int.mul_assoc]))
  have HM := Lib.hid (show ∀ W, Ground W → Calls Tryz.prog 44 #[.string (cS z), .string ⟨#[49, 48]⟩] W (StrPost W (z * 10)) from fun W hW => mul_v W hW (by have := cS_size hcz; omega) (by decide) (vS_cS _) vS_ten rfl)
  have hkw : IntKind.i64.wrap (k + 1) = k + 1 := IntWalk.i64_in _ (by omega)
  have hcd : decide (0 < p) = false := decide_eq_false (by omega)
  rw [hcd] at HCU
  have hk0 : ¬ k < 0 := by omega
  have hk12 : ¬ 12 < k := by omega
  have hkp : ¬ 0 < k := by omega
  have hkt : (k == 12) = false := by simp; omega
  clear hn hp hz hp12 hcz hS hSs hSd hSu hSp hx ht hfv ha hb hcd h1
  have hS : StL w w [] := StL.zero hG
  go_enter Tryz.func9, Tryz.ntmps9
  go_wp2_with fail
  refine Calls.mono (rLongI n w) ?_
  rintro _ _ ⟨rfl, rfl⟩
  rw [HL.out]
  go_wp2_with fail
  refine Calls.mono (Ret.call HT.out _ hS.g) ?_
  rintro _ w1 ⟨rfl, hB⟩
  replace hS := hS.next hB
  clear hB
  go_wp2_with fail
  refine Calls.mono (Ret.call HPA.out _ hS.g) ?_
  rintro _ w2 ⟨rfl, hB⟩
  replace hS := hS.next hB
  clear hB
  go_wp2_with fail
  refine Calls.mono (Ret.call HFR.out _ hS.g) ?_
  rintro _ w3 ⟨rfl, hB⟩
  replace hS := hS.next hB
  clear hB
  go_upto_region 8 with fail
  obtain ⟨b4, hb4⟩ : ∃ b, b = w3.heap.size := ⟨_, rfl⟩
  obtain ⟨V4, hV4⟩ : ∃ V, V = w3.alloc (.cells #[.string (cS x.1), .string (cD x.2)] 24) := ⟨_, rfl⟩
  have hT : StL w V4 [(b4, (cS x.1), (cD x.2))] := by rw [hV4, hb4]; exact hS.alloc _ _
  rw [← hb4, ← hV4]
  clear hV4 hb4 hS
  have hS := hT
  clear hT
  obtain ⟨fp0, _⟩ := hS.box
  obtain ⟨fx0, fy0, _, _⟩ := fp0.cells
  go_wp2_with fail
  clear fp0 fx0 fy0
  refine Calls.mono (Ret.call HPW.out _ hS.g) ?_
  rintro _ w5 ⟨rfl, hB⟩
  replace hS := hS.next hB
  clear hB
  obtain ⟨fp0, _⟩ := hS.box
  obtain ⟨fx0, fy0, _, _⟩ := fp0.cells
  go_upto_region 9 with fail
  clear fp0 fx0 fy0
  obtain ⟨fp0, _⟩ := hS.box
  obtain ⟨fx0, fy0, _, _⟩ := fp0.cells
  try go_upto_region 9 with fail
  have HS := Lib.hid hS
  clear hS
  go_cut [87] (fun s87 wx => s87 = .bool false ∧ StL w wx [(b4, (cS x.1), (cD x.2))])
  case first =>
    go_region_held3 (fun w' => w'.cell? ⟨b4, 0, none⟩ = some (.string (cS x.1)) ∧ w'.cell? ⟨b4, 1, none⟩ = some (.string (cD x.2)))
      (go_keep)
      (first
    | (go_at_call 41;
         (first
           | (with_reducible refine Calls.mono (Ret.call HCN.out _ (by first | exact HS.out.g | exact HS.out.drew.g | exact (HS.out.drewN _).g)) ?_));
         (rintro e WX ⟨rfl, hB1⟩);
         (have HS2 : StL w WX [(b4, (cS x.1), (cD x.2))] := (by first | exact HS.out.next hB1 | exact HS.out.next1 hB1 | exact HS.out.nextD hB1));
         (replace HS := Lib.hid HS2);
         (clear hB1 HS2);
         (obtain ⟨fp0, _⟩ := HS.out.box);
         (obtain ⟨fx0, fy0, _, _⟩ := fp0.cells))
    | (go_at_call 31;
         (first
           | (with_reducible refine Calls.mono (fOf_v (p := t) _ (by first | exact HS.out.g | exact HS.out.drew.g | exact (HS.out.drewN _).g) HCT.out (vS_cS _)) ?_)
           | (with_reducible refine Calls.mono (fOf_v (p := z) _ (by first | exact HS.out.g | exact HS.out.drew.g | exact (HS.out.drewN _).g) HNS.out HZV.out) ?_));
         (rintro e WX ⟨rfl, hB1⟩);
         (have HS2 : StL w WX [(b4, (cS x.1), (cD x.2))] := (by first | exact HS.out.next hB1 | exact HS.out.next1 hB1 | exact HS.out.nextD hB1));
         (replace HS := Lib.hid HS2);
         (clear hB1 HS2);
         (obtain ⟨fp0, _⟩ := HS.out.box);
         (obtain ⟨fx0, fy0, _, _⟩ := fp0.cells))
    | (go_at_call 42;
         (first
           | (with_reducible refine Calls.mono (fMul_v (z := (z, 1)) _ (by first | exact HS.out.g | exact HS.out.drew.g | exact (HS.out.drewN _).g) HXV.out HTV.out HMU.out) ?_));
         (rintro e WX ⟨rfl, hB1⟩);
         (have HS2 : StL w WX [(b4, (cS x.1), (cD x.2))] := (by first | exact HS.out.next hB1 | exact HS.out.next1 hB1 | exact HS.out.nextD hB1));
         (replace HS := Lib.hid HS2);
         (clear hB1 HS2);
         (obtain ⟨fp0, _⟩ := HS.out.box);
         (obtain ⟨fx0, fy0, _, _⟩ := fp0.cells))
    | (go_at_call 29;
         (first
           | (with_reducible refine Calls.mono (fCompare_v (c := 0) _ (by first | exact HS.out.g | exact HS.out.drew.g | exact (HS.out.drewN _).g) HV1.out HV2.out HC0.out) ?_));
         (rintro e WX ⟨rfl, hB1⟩);
         (have HS2 : StL w WX [(b4, (cS x.1), (cD x.2))] := (by first | exact HS.out.next hB1 | exact HS.out.next1 hB1 | exact HS.out.nextD hB1));
         (replace HS := Lib.hid HS2);
         (clear hB1 HS2);
         (obtain ⟨fp0, _⟩ := HS.out.box);
         (obtain ⟨fx0, fy0, _, _⟩ := fp0.cells)))
    all_goals go_wp2_with fail
    all_goals go_meet
    all_goals exact ⟨rfl, (by first | exact HS.out | exact HS.out.drew | exact HS.out.drewN _)⟩
  clear HS
  clear fp0 fx0 fy0
  obtain ⟨rfl, hS⟩ := hcut
  obtain ⟨w6, hw⟩ : ∃ W, W = wc := ⟨_, rfl⟩
  rw [← hw] at hS
  rw [← hw]
  clear hw
  obtain ⟨fp0, _⟩ := hS.box
  obtain ⟨fx0, fy0, _, _⟩ := fp0.cells
  go_wp2_with fail
  clear fp0 fx0 fy0
  refine Calls.mono (Ret.call HCU.out _ hS.g) ?_
  rintro _ w7 ⟨rfl, hB⟩
  replace hS := hS.next hB
  clear hB
  obtain ⟨fp0, _⟩ := hS.box
  obtain ⟨fx0, fy0, _, _⟩ := fp0.cells
  go_wp2_with fail
  clear fp0 fx0 fy0
  refine Calls.mono (Ret.call HPB.out _ hS.g) ?_
  rintro _ w8 ⟨rfl, hB⟩
  replace hS := hS.next hB
  clear hB
  obtain ⟨fp0, _⟩ := hS.box
  obtain ⟨fx0, fy0, _, _⟩ := fp0.cells
  go_wp2_with fail
  clear fp0 fx0 fy0
  refine Calls.mono (HM.out _ hS.g) ?_
  rintro _ w9 ⟨rfl, hB⟩
  replace hS := hS.next hB
  clear hB
  obtain ⟨fp0, _⟩ := hS.box
  obtain ⟨fx0, fy0, _, _⟩ := fp0.cells
  go_wp2_with fail
  clear fp0 fx0 fy0
  refine Calls.mono (Ret.call HAW.out _ hS.g) ?_
  rintro _ w10 ⟨rfl, hB⟩
  replace hS := hS.next hB
  clear hB
  obtain ⟨fp0, _⟩ := hS.box
  obtain ⟨fx0, fy0, _, _⟩ := fp0.cells
  go_wp2_with fail
  go_ret
  exact ⟨rfl, hS.below⟩

set_option maxRecDepth 100000 in
set_option maxHeartbeats 16000000 in
theorem drt_mid (n : ByteArray) (k : Int) (w : World) (hG : Ground w) (hn : n.size ≤ 60) (h1 : 0 < k) (h2 : k < 12) :
    Calls Tryz.prog 9 #[.string n, .int .i64 k] w fun e w' => e = .returned (.bool true) ∧ Below w.heap.size w w' := by
  have HL := Lib.hid (longS_false (s := n) (by omega))
  have HAW := Lib.hid dawake_any
  obtain ⟨p, hp⟩ : ∃ p : Nat, k = p := ⟨k.toNat, by omega⟩
  obtain ⟨z, hz⟩ : ∃ z, vS n = z := ⟨_, rfl⟩
  have hp12 : p ≤ 12 := by omega
  have hcz : Cap 60 z := Cap.of hn hz
  obtain ⟨S, hS⟩ : ∃ S, S = txt z p := ⟨_, rfl⟩
  have hSs : S.size ≤ 65536 := by rw [hS]; have := txt_size p hcz; omega
  have hSd : isDecS S = true := by rw [hS]; exact isDec_txt z p
  have hSu : unitsD S = z := by rw [hS]; exact units_txt z p
  have hSp : placesD S = p := by rw [hS]; exact places_txt z p
  obtain ⟨x, hx⟩ : ∃ x, low (z, (10 : Int) ^ p) = x := ⟨_, rfl⟩
  obtain ⟨t, ht⟩ : ∃ t, (10 : Int) ^ p = t := ⟨_, rfl⟩
  have HT := Lib.hid (show Ret 21 #[.string n, .int .i64 k] (two S 0) by rw [hp, hS]; exact text_ok (by omega) hz hp12)
  have HPA := Lib.hid (show Ret 23 #[.string S, .int .i64 k] (two (cS z) 0) by rw [hp]; exact dParse_ok hSs hSd hp12 (by rw [hSu, hSp]))
  have HFR := Lib.hid (show Ret 25 #[.string S] (fraE (cS x.1) (cD x.2) 0) from fraction_ok hSs hSd (by rw [hSu, hSp]; exact hx))
  have HPW := Lib.hid (show Ret 40 #[.string ⟨#[49, 48]⟩, .int .i64 k] (two (cS t) 0) by rw [hp, ← ht]; exact power_ten hp12)
  have HCN := Lib.hid (canon_ret (s := n) (z := z) (by omega) hz)
  have HCT := Lib.hid (show (cS t).size ≤ 100000 by rw [← ht]; have := tens_size p; omega)
  have hfv := frac_val (p := p) hcz (by omega)
  rw [hx] at hfv
  have HXV := Lib.hid (show Val (cS x.1) (cD x.2) x from Val.of hfv.1 hfv.2 (by decide))
  have HTV := Lib.hid (show Val (cS t) ⟨#[]⟩ (t, 1) by rw [← ht]; exact tens_val (by omega))
  have HMU := Lib.hid (show mulP x (t, 1) = (z, 1) by rw [← hx, ← ht]; exact text_value)
  have HNS := Lib.hid (show n.size ≤ 100000 by omega)
  have HZV := Lib.hid hz
  have HV1 := Lib.hid (show Val (cS (z, (1 : Int)).1) (cD (z, (1 : Int)).2) (z, 1) from Val.of (k := 60) (int_capP hcz (by decide)) Int.one_pos (by decide))
  have HV2 := Lib.hid (int_val hcz (by decide))
  have HC0 := Lib.hid (cmp_same (z, 1))
  have HCU := Lib.hid (cut_ret (c := decide (0 < p)) hSs (by rw [hS]; exact dot_txt z p))
  obtain ⟨a, ha⟩ : ∃ a, a = befS S := ⟨_, rfl⟩
  obtain ⟨b, hb⟩ : ∃ b, b = behS S := ⟨_, rfl⟩
  have hbk : (b.size : Int) = k := by rw [hb, behS_good, hSp, hp]
  rw [← ha, ← hb] at HCU
  have HPB := Lib.hid (show Ret 23 #[.string S, .int .i64 (k + 1)] (two (cS (z * 10)) 0) by
    rw [hp, show (p : Int) + 1 = ((p + 1 : Nat) : Int) by omega]
    exact dParse_ok hSs hSd (by omega) (by rw [hSu, hSp, Int.pow_succ, Int.mul_comm ((10 : Int) ^ p) 10, Int.mul_assoc]))
  have HM := Lib.hid (show ∀ W, Ground W → Calls Tryz.prog 44 #[.string (cS z), .string ⟨#[49, 48]⟩] W (StrPost W (z * 10)) from fun W hW => mul_v W hW (by have := cS_size hcz; omega) (by decide) (vS_cS _) vS_ten rfl)
  have hkw : IntKind.i64.wrap (k + 1) = k + 1 := IntWalk.i64_in _ (by omega)
  have hcd : decide (0 < p) = true := decide_eq_true (by omega)
  rw [hcd] at HCU
  have hk0 : ¬ k < 0 := by omega
  have hk12 : ¬ 12 < k := by omega
  have hkp : 0 < k := by omega
  have hkt : (k == 12) = false := by simp; omega
  clear hn hp hz hp12 hcz hS hSs hSd hSu hSp hx ht hfv ha hb hcd h1 h2
  have hS : StL w w [] := StL.zero hG
  go_enter Tryz.func9, Tryz.ntmps9
  go_wp2_with fail
  refine Calls.mono (rLongI n w) ?_
  rintro _ _ ⟨rfl, rfl⟩
  rw [HL.out]
  go_wp2_with fail
  refine Calls.mono (Ret.call HT.out _ hS.g) ?_
  rintro _ w1 ⟨rfl, hB⟩
  replace hS := hS.next hB
  clear hB
  go_wp2_with fail
  refine Calls.mono (Ret.call HPA.out _ hS.g) ?_
  rintro _ w2 ⟨rfl, hB⟩
  replace hS := hS.next hB
  clear hB
  go_wp2_with fail
  refine Calls.mono (Ret.call HFR.out _ hS.g) ?_
  rintro _ w3 ⟨rfl, hB⟩
  replace hS := hS.next hB
  clear hB
  go_upto_region 8 with fail
  obtain ⟨b4, hb4⟩ : ∃ b, b = w3.heap.size := ⟨_, rfl⟩
  obtain ⟨V4, hV4⟩ : ∃ V, V = w3.alloc (.cells #[.string (cS x.1), .string (cD x.2)] 24) := ⟨_, rfl⟩
  have hT : StL w V4 [(b4, (cS x.1), (cD x.2))] := by rw [hV4, hb4]; exact hS.alloc _ _
  rw [← hb4, ← hV4]
  clear hV4 hb4 hS
  have hS := hT
  clear hT
  obtain ⟨fp0, _⟩ := hS.box
  obtain ⟨fx0, fy0, _, _⟩ := fp0.cells
  go_wp2_with fail
  clear fp0 fx0 fy0
  refine Calls.mono (Ret.call HPW.out _ hS.g) ?_
  rintro _ w5 ⟨rfl, hB⟩
  replace hS := hS.next hB
  clear hB
  obtain ⟨fp0, _⟩ := hS.box
  obtain ⟨fx0, fy0, _, _⟩ := fp0.cells
  go_upto_region 9 with fail
  clear fp0 fx0 fy0
  obtain ⟨fp0, _⟩ := hS.box
  obtain ⟨fx0, fy0, _, _⟩ := fp0.cells
  try go_upto_region 9 with fail
  have HS := Lib.hid hS
  clear hS
  go_cut [87] (fun s87 wx => s87 = .bool false ∧ StL w wx [(b4, (cS x.1), (cD x.2))])
  case first =>
    go_region_held3 (fun w' => w'.cell? ⟨b4, 0, none⟩ = some (.string (cS x.1)) ∧ w'.cell? ⟨b4, 1, none⟩ = some (.string (cD x.2)))
      (go_keep)
      (first
    | (go_at_call 41;
         (first
           | (with_reducible refine Calls.mono (Ret.call HCN.out _ (by first | exact HS.out.g | exact HS.out.drew.g | exact (HS.out.drewN _).g)) ?_));
         (rintro e WX ⟨rfl, hB1⟩);
         (have HS2 : StL w WX [(b4, (cS x.1), (cD x.2))] := (by first | exact HS.out.next hB1 | exact HS.out.next1 hB1 | exact HS.out.nextD hB1));
         (replace HS := Lib.hid HS2);
         (clear hB1 HS2);
         (obtain ⟨fp0, _⟩ := HS.out.box);
         (obtain ⟨fx0, fy0, _, _⟩ := fp0.cells))
    | (go_at_call 31;
         (first
           | (with_reducible refine Calls.mono (fOf_v (p := t) _ (by first | exact HS.out.g | exact HS.out.drew.g | exact (HS.out.drewN _).g) HCT.out (vS_cS _)) ?_)
           | (with_reducible refine Calls.mono (fOf_v (p := z) _ (by first | exact HS.out.g | exact HS.out.drew.g | exact (HS.out.drewN _).g) HNS.out HZV.out) ?_));
         (rintro e WX ⟨rfl, hB1⟩);
         (have HS2 : StL w WX [(b4, (cS x.1), (cD x.2))] := (by first | exact HS.out.next hB1 | exact HS.out.next1 hB1 | exact HS.out.nextD hB1));
         (replace HS := Lib.hid HS2);
         (clear hB1 HS2);
         (obtain ⟨fp0, _⟩ := HS.out.box);
         (obtain ⟨fx0, fy0, _, _⟩ := fp0.cells))
    | (go_at_call 42;
         (first
           | (with_reducible refine Calls.mono (fMul_v (z := (z, 1)) _ (by first | exact HS.out.g | exact HS.out.drew.g | exact (HS.out.drewN _).g) HXV.out HTV.out HMU.out) ?_));
         (rintro e WX ⟨rfl, hB1⟩);
         (have HS2 : StL w WX [(b4, (cS x.1), (cD x.2))] := (by first | exact HS.out.next hB1 | exact HS.out.next1 hB1 | exact HS.out.nextD hB1));
         (replace HS := Lib.hid HS2);
         (clear hB1 HS2);
         (obtain ⟨fp0, _⟩ := HS.out.box);
         (obtain ⟨fx0, fy0, _, _⟩ := fp0.cells))
    | (go_at_call 29;
         (first
           | (with_reducible refine Calls.mono (fCompare_v (c := 0) _ (by first | exact HS.out.g | exact HS.out.drew.g | exact (HS.out.drewN _).g) HV1.out HV2.out HC0.out) ?_));
         (rintro e WX ⟨rfl, hB1⟩);
         (have HS2 : StL w WX [(b4, (cS x.1), (cD x.2))] := (by first | exact HS.out.next hB1 | exact HS.out.next1 hB1 | exact HS.out.nextD hB1));
         (replace HS := Lib.hid HS2);
         (clear hB1 HS2);
         (obtain ⟨fp0, _⟩ := HS.out.box);
         (obtain ⟨fx0, fy0, _, _⟩ := fp0.cells)))
    all_goals go_wp2_with fail
    all_goals go_meet
    all_goals exact ⟨rfl, (by first | exact HS.out | exact HS.out.drew | exact HS.out.drewN _)⟩
  clear HS
  clear fp0 fx0 fy0
  obtain ⟨rfl, hS⟩ := hcut
  obtain ⟨w6, hw⟩ : ∃ W, W = wc := ⟨_, rfl⟩
  rw [← hw] at hS
  rw [← hw]
  clear hw
  obtain ⟨fp0, _⟩ := hS.box
  obtain ⟨fx0, fy0, _, _⟩ := fp0.cells
  go_wp2_with fail
  clear fp0 fx0 fy0
  refine Calls.mono (Ret.call HCU.out _ hS.g) ?_
  rintro _ w7 ⟨rfl, hB⟩
  replace hS := hS.next hB
  clear hB
  obtain ⟨fp0, _⟩ := hS.box
  obtain ⟨fx0, fy0, _, _⟩ := fp0.cells
  go_wp2_with fail
  clear fp0 fx0 fy0
  refine Calls.mono (Ret.call HPB.out _ hS.g) ?_
  rintro _ w8 ⟨rfl, hB⟩
  replace hS := hS.next hB
  clear hB
  obtain ⟨fp0, _⟩ := hS.box
  obtain ⟨fx0, fy0, _, _⟩ := fp0.cells
  go_wp2_with fail
  clear fp0 fx0 fy0
  refine Calls.mono (HM.out _ hS.g) ?_
  rintro _ w9 ⟨rfl, hB⟩
  replace hS := hS.next hB
  clear hB
  obtain ⟨fp0, _⟩ := hS.box
  obtain ⟨fx0, fy0, _, _⟩ := fp0.cells
  go_wp2_with fail
  clear fp0 fx0 fy0
  refine Calls.mono (Ret.call HAW.out _ hS.g) ?_
  rintro _ w10 ⟨rfl, hB⟩
  replace hS := hS.next hB
  clear hB
  obtain ⟨fp0, _⟩ := hS.box
  obtain ⟨fx0, fy0, _, _⟩ := fp0.cells
  go_wp2_with fail
  go_ret
  exact ⟨rfl, hS.below⟩

set_option maxRecDepth 100000 in
set_option maxHeartbeats 16000000 in
theorem drt_top (n : ByteArray) (k : Int) (w : World) (hG : Ground w) (hn : n.size ≤ 60) (h1 : k = 12) :
    Calls Tryz.prog 9 #[.string n, .int .i64 k] w fun e w' => e = .returned (.bool true) ∧ Below w.heap.size w w' := by
  have HL := Lib.hid (longS_false (s := n) (by omega))
  have HAW := Lib.hid dawake_any
  obtain ⟨p, hp⟩ : ∃ p : Nat, k = p := ⟨k.toNat, by omega⟩
  obtain ⟨z, hz⟩ : ∃ z, vS n = z := ⟨_, rfl⟩
  have hp12 : p ≤ 12 := by omega
  have hcz : Cap 60 z := Cap.of hn hz
  obtain ⟨S, hS⟩ : ∃ S, S = txt z p := ⟨_, rfl⟩
  have hSs : S.size ≤ 65536 := by rw [hS]; have := txt_size p hcz; omega
  have hSd : isDecS S = true := by rw [hS]; exact isDec_txt z p
  have hSu : unitsD S = z := by rw [hS]; exact units_txt z p
  have hSp : placesD S = p := by rw [hS]; exact places_txt z p
  obtain ⟨x, hx⟩ : ∃ x, low (z, (10 : Int) ^ p) = x := ⟨_, rfl⟩
  obtain ⟨t, ht⟩ : ∃ t, (10 : Int) ^ p = t := ⟨_, rfl⟩
  have HT := Lib.hid (show Ret 21 #[.string n, .int .i64 k] (two S 0) by rw [hp, hS]; exact text_ok (by omega) hz hp12)
  have HPA := Lib.hid (show Ret 23 #[.string S, .int .i64 k] (two (cS z) 0) by rw [hp]; exact dParse_ok hSs hSd hp12 (by rw [hSu, hSp]))
  have HFR := Lib.hid (show Ret 25 #[.string S] (fraE (cS x.1) (cD x.2) 0) from fraction_ok hSs hSd (by rw [hSu, hSp]; exact hx))
  have HPW := Lib.hid (show Ret 40 #[.string ⟨#[49, 48]⟩, .int .i64 k] (two (cS t) 0) by rw [hp, ← ht]; exact power_ten hp12)
  have HCN := Lib.hid (canon_ret (s := n) (z := z) (by omega) hz)
  have HCT := Lib.hid (show (cS t).size ≤ 100000 by rw [← ht]; have := tens_size p; omega)
  have hfv := frac_val (p := p) hcz (by omega)
  rw [hx] at hfv
  have HXV := Lib.hid (show Val (cS x.1) (cD x.2) x from Val.of hfv.1 hfv.2 (by decide))
  have HTV := Lib.hid (show Val (cS t) ⟨#[]⟩ (t, 1) by rw [← ht]; exact tens_val (by omega))
  have HMU := Lib.hid (show mulP x (t, 1) = (z, 1) by rw [← hx, ← ht]; exact text_value)
  have HNS := Lib.hid (show n.size ≤ 100000 by omega)
  have HZV := Lib.hid hz
  have HV1 := Lib.hid (show Val (cS (z, (1 : Int)).1) (cD (z, (1 : Int)).2) (z, 1) from Val.of (k := 60) (int_capP hcz (by decide)) Int.one_pos (by decide))
  have HV2 := Lib.hid (int_val hcz (by decide))
  have HC0 := Lib.hid (cmp_same (z, 1))
  have HCU := Lib.hid (cut_ret (c := decide (0 < p)) hSs (by rw [hS]; exact dot_txt z p))
  obtain ⟨a, ha⟩ : ∃ a, a = befS S := ⟨_, rfl⟩
  obtain ⟨b, hb⟩ : ∃ b, b = behS S := ⟨_, rfl⟩
  have hbk : (b.size : Int) = k := by rw [hb, behS_good, hSp, hp]
  rw [← ha, ← hb] at HCU
  have hcd : decide (0 < p) = true := decide_eq_true (by omega)
  rw [hcd] at HCU
  have hk0 : ¬ k < 0 := by omega
  have hk12 : ¬ 12 < k := by omega
  have hkp : 0 < k := by omega
  have hkt : (k == 12) = true := by simp; omega
  clear hn hp hz hp12 hcz hS hSs hSd hSu hSp hx ht hfv ha hb hcd h1
  have hS : StL w w [] := StL.zero hG
  go_enter Tryz.func9, Tryz.ntmps9
  go_wp2_with fail
  refine Calls.mono (rLongI n w) ?_
  rintro _ _ ⟨rfl, rfl⟩
  rw [HL.out]
  go_wp2_with fail
  refine Calls.mono (Ret.call HT.out _ hS.g) ?_
  rintro _ w1 ⟨rfl, hB⟩
  replace hS := hS.next hB
  clear hB
  go_wp2_with fail
  refine Calls.mono (Ret.call HPA.out _ hS.g) ?_
  rintro _ w2 ⟨rfl, hB⟩
  replace hS := hS.next hB
  clear hB
  go_wp2_with fail
  refine Calls.mono (Ret.call HFR.out _ hS.g) ?_
  rintro _ w3 ⟨rfl, hB⟩
  replace hS := hS.next hB
  clear hB
  go_upto_region 8 with fail
  obtain ⟨b4, hb4⟩ : ∃ b, b = w3.heap.size := ⟨_, rfl⟩
  obtain ⟨V4, hV4⟩ : ∃ V, V = w3.alloc (.cells #[.string (cS x.1), .string (cD x.2)] 24) := ⟨_, rfl⟩
  have hT : StL w V4 [(b4, (cS x.1), (cD x.2))] := by rw [hV4, hb4]; exact hS.alloc _ _
  rw [← hb4, ← hV4]
  clear hV4 hb4 hS
  have hS := hT
  clear hT
  obtain ⟨fp0, _⟩ := hS.box
  obtain ⟨fx0, fy0, _, _⟩ := fp0.cells
  go_wp2_with fail
  clear fp0 fx0 fy0
  refine Calls.mono (Ret.call HPW.out _ hS.g) ?_
  rintro _ w5 ⟨rfl, hB⟩
  replace hS := hS.next hB
  clear hB
  obtain ⟨fp0, _⟩ := hS.box
  obtain ⟨fx0, fy0, _, _⟩ := fp0.cells
  go_upto_region 9 with fail
  clear fp0 fx0 fy0
  obtain ⟨fp0, _⟩ := hS.box
  obtain ⟨fx0, fy0, _, _⟩ := fp0.cells
  try go_upto_region 9 with fail
  have HS := Lib.hid hS
  clear hS
  go_cut [87] (fun s87 wx => s87 = .bool false ∧ StL w wx [(b4, (cS x.1), (cD x.2))])
  case first =>
    go_region_held3 (fun w' => w'.cell? ⟨b4, 0, none⟩ = some (.string (cS x.1)) ∧ w'.cell? ⟨b4, 1, none⟩ = some (.string (cD x.2)))
      (go_keep)
      (first
    | (go_at_call 41;
         (first
           | (with_reducible refine Calls.mono (Ret.call HCN.out _ (by first | exact HS.out.g | exact HS.out.drew.g | exact (HS.out.drewN _).g)) ?_));
         (rintro e WX ⟨rfl, hB1⟩);
         (have HS2 : StL w WX [(b4, (cS x.1), (cD x.2))] := (by first | exact HS.out.next hB1 | exact HS.out.next1 hB1 | exact HS.out.nextD hB1));
         (replace HS := Lib.hid HS2);
         (clear hB1 HS2);
         (obtain ⟨fp0, _⟩ := HS.out.box);
         (obtain ⟨fx0, fy0, _, _⟩ := fp0.cells))
    | (go_at_call 31;
         (first
           | (with_reducible refine Calls.mono (fOf_v (p := t) _ (by first | exact HS.out.g | exact HS.out.drew.g | exact (HS.out.drewN _).g) HCT.out (vS_cS _)) ?_)
           | (with_reducible refine Calls.mono (fOf_v (p := z) _ (by first | exact HS.out.g | exact HS.out.drew.g | exact (HS.out.drewN _).g) HNS.out HZV.out) ?_));
         (rintro e WX ⟨rfl, hB1⟩);
         (have HS2 : StL w WX [(b4, (cS x.1), (cD x.2))] := (by first | exact HS.out.next hB1 | exact HS.out.next1 hB1 | exact HS.out.nextD hB1));
         (replace HS := Lib.hid HS2);
         (clear hB1 HS2);
         (obtain ⟨fp0, _⟩ := HS.out.box);
         (obtain ⟨fx0, fy0, _, _⟩ := fp0.cells))
    | (go_at_call 42;
         (first
           | (with_reducible refine Calls.mono (fMul_v (z := (z, 1)) _ (by first | exact HS.out.g | exact HS.out.drew.g | exact (HS.out.drewN _).g) HXV.out HTV.out HMU.out) ?_));
         (rintro e WX ⟨rfl, hB1⟩);
         (have HS2 : StL w WX [(b4, (cS x.1), (cD x.2))] := (by first | exact HS.out.next hB1 | exact HS.out.next1 hB1 | exact HS.out.nextD hB1));
         (replace HS := Lib.hid HS2);
         (clear hB1 HS2);
         (obtain ⟨fp0, _⟩ := HS.out.box);
         (obtain ⟨fx0, fy0, _, _⟩ := fp0.cells))
    | (go_at_call 29;
         (first
           | (with_reducible refine Calls.mono (fCompare_v (c := 0) _ (by first | exact HS.out.g | exact HS.out.drew.g | exact (HS.out.drewN _).g) HV1.out HV2.out HC0.out) ?_));
         (rintro e WX ⟨rfl, hB1⟩);
         (have HS2 : StL w WX [(b4, (cS x.1), (cD x.2))] := (by first | exact HS.out.next hB1 | exact HS.out.next1 hB1 | exact HS.out.nextD hB1));
         (replace HS := Lib.hid HS2);
         (clear hB1 HS2);
         (obtain ⟨fp0, _⟩ := HS.out.box);
         (obtain ⟨fx0, fy0, _, _⟩ := fp0.cells)))
    all_goals go_wp2_with fail
    all_goals go_meet
    all_goals exact ⟨rfl, (by first | exact HS.out | exact HS.out.drew | exact HS.out.drewN _)⟩
  clear HS
  clear fp0 fx0 fy0
  obtain ⟨rfl, hS⟩ := hcut
  obtain ⟨w6, hw⟩ : ∃ W, W = wc := ⟨_, rfl⟩
  rw [← hw] at hS
  rw [← hw]
  clear hw
  obtain ⟨fp0, _⟩ := hS.box
  obtain ⟨fx0, fy0, _, _⟩ := fp0.cells
  go_wp2_with fail
  clear fp0 fx0 fy0
  refine Calls.mono (Ret.call HCU.out _ hS.g) ?_
  rintro _ w7 ⟨rfl, hB⟩
  replace hS := hS.next hB
  clear hB
  obtain ⟨fp0, _⟩ := hS.box
  obtain ⟨fx0, fy0, _, _⟩ := fp0.cells
  go_wp2_with fail
  clear fp0 fx0 fy0
  refine Calls.mono (Ret.call HAW.out _ hS.g) ?_
  rintro _ w8 ⟨rfl, hB⟩
  replace hS := hS.next hB
  clear hB
  obtain ⟨fp0, _⟩ := hS.box
  obtain ⟨fx0, fy0, _, _⟩ := fp0.cells
  go_wp2_with fail
  go_ret
  exact ⟨rfl, hS.below⟩

theorem drt_any (n : ByteArray) (k : Int) (w : World) (hG : Ground w) :
    Calls Tryz.prog 9 #[.string n, .int .i64 k] w fun e w' => e = .returned (.bool true) ∧ Below w.heap.size w w' := by
  by_cases hn : n.size ≤ 60
  · have hl : longS n = false := longS_false (by omega)
    by_cases h0 : k < 0
    · exact drt_lo n k w hG hl h0
    · by_cases h12 : 12 < k
      · exact drt_hi n k w hG hl h0 h12
      · by_cases h1 : k = 0
        · exact drt_zero n k w hG hn h1
        · by_cases h2 : k = 12
          · exact drt_top n k w hG hn h2
          · exact drt_mid n k w hG hn (by omega) (by omega)
  · exact drt_long n k w hG (longS_true (by omega))

end Go.Proofs.YtlonbfddhfacmaaGreatDoor
