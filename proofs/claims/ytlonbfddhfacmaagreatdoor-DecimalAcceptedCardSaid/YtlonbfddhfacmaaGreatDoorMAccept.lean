/- the law DecimalAccepted: the walk. -/
import Derived.Test.YtlonbfddhfacmaaGreatDoorDE
import Derived.Deep.DeepCutAuto
import Derived.Laws.NewBlocks
namespace Go.Proofs.YtlonbfddhfacmaaGreatDoor
open Go.RowKit Fra

/-- a text without zeros behind the point -/
def trimS (s : ByteArray) : ByteArray := ⟨(Num.trimT s.data.toList).toArray⟩
set_option maxHeartbeats 1000000 in
theorem trim_ret (s : ByteArray) (hs : s.size ≤ 1000) : Ret 45 #[.string s] (.string (trimS s)) := by
  refine Ret.of_same fun w => ?_
  by_cases h : 0 ≤ Lib.indexByte s.data.toList 46
  · have HT := Lib.hid (show trimS s = ⟨(Lib.trimSuffix (ByteArray.mk (Lib.trimRightB s.data.toList 48).toArray).data.toList (ByteArray.mk #[46]).data.toList).toArray⟩ by unfold trimS Num.trimT; rw [if_pos h])
    have HD := Lib.hid (decide_eq_true h)
    have HL := Lib.hid (show (ByteArray.mk (Lib.trimRightB s.data.toList 48).toArray).size ≤ 9223372036854775807 by
      have h1 : (Lib.trimRightB s.data.toList 48).length ≤ s.data.toList.length := by
        unfold Lib.trimRightB
        have h2 := (List.dropWhile_sublist (l := s.data.toList.reverse) (fun b => b == 48)).length_le
        simpa using h2
      rw [size_toList] at h1
      rw [← size_toList]
      show (Lib.trimRightB s.data.toList 48).length ≤ _
      omega)
    clear h
    go_enter Tryz.func45, Tryz.ntmps45
    go_wp2_with fail
    refine (Tryz.strings_Contains_one s 46 w).mono ?_
    rintro _ _ ⟨rfl, rfl⟩
    rw [HD.out]
    go_wp2_with fail
    refine (Tryz.strings_TrimRight_one s 48 (by decide) _ (by omega)).mono ?_
    rintro _ _ ⟨rfl, rfl⟩
    go_wp2_with fail
    refine (Tryz.strings_TrimSuffix _ ⟨#[46]⟩ _ HL.out).mono ?_
    rintro _ _ ⟨rfl, rfl⟩
    rw [← HT.out]
    go_wp2_with fail
    go_ret
    exact ⟨rfl, rfl⟩
  · have HT := Lib.hid (show trimS s = s by unfold trimS Num.trimT; rw [if_neg h])
    have HD := Lib.hid (decide_eq_false h)
    clear h
    go_enter Tryz.func45, Tryz.ntmps45
    go_wp2_with fail
    refine (Tryz.strings_Contains_one s 46 w).mono ?_
    rintro _ _ ⟨rfl, rfl⟩
    rw [HD.out]
    go_wp2_with fail
    go_ret
    exact ⟨by rw [HT.out]; rfl, rfl⟩
theorem text_of {s : ByteArray} (h : isDecS s = true) : s = txt (unitsD s) (placesD s) := by
  have h1 := good_text h
  rw [unitsS_good h, behS_good] at h1
  exact h1.symm
theorem trim_alike {s : ByteArray} {m : Int} {p : Nat} (h : isDecS s = true) (hm : unitsD s * (10 : Int) ^ p = m * (10 : Int) ^ placesD s) : trimS (txt m p) = trimS s := by
  conv => rhs; rw [text_of h]
  unfold trimS
  rw [txt_list, txt_list, Num.trim_same hm]

set_option maxRecDepth 100000 in
set_option maxHeartbeats 16000000 in
theorem dac_size (s : ByteArray) (k : Int) (w : World) (hG : Ground w) (h1 : (60 : Int) < s.size) :
    Calls Tryz.prog 10 #[.string s, .int .i64 k] w fun e w' => e = .returned (.bool true) ∧ Below w.heap.size w w' := by
  have HAW := Lib.hid dawake_any
  have hS : StL w w [] := StL.zero hG
  go_enter Tryz.func10, Tryz.ntmps10
  go_wp2_with fail
  refine Calls.mono (Ret.call HAW.out _ hS.g) ?_
  rintro _ w1 ⟨rfl, hB⟩
  replace hS := hS.next hB
  clear hB
  go_wp2_with fail
  go_ret
  exact ⟨rfl, hS.below⟩

set_option maxRecDepth 100000 in
set_option maxHeartbeats 16000000 in
theorem dac_lo (s : ByteArray) (k : Int) (w : World) (hG : Ground w) (h1 : ¬ (60 : Int) < s.size) (h2 : k < 0) :
    Calls Tryz.prog 10 #[.string s, .int .i64 k] w fun e w' => e = .returned (.bool true) ∧ Below w.heap.size w w' := by
  have HAW := Lib.hid dawake_any
  have hS : StL w w [] := StL.zero hG
  go_enter Tryz.func10, Tryz.ntmps10
  go_wp2_with fail
  refine Calls.mono (Ret.call HAW.out _ hS.g) ?_
  rintro _ w1 ⟨rfl, hB⟩
  replace hS := hS.next hB
  clear hB
  go_wp2_with fail
  go_ret
  exact ⟨rfl, hS.below⟩

set_option maxRecDepth 100000 in
set_option maxHeartbeats 16000000 in
theorem dac_hi (s : ByteArray) (k : Int) (w : World) (hG : Ground w) (h1 : ¬ (60 : Int) < s.size) (h2 : ¬ k < 0) (h3 : 12 < k) :
    Calls Tryz.prog 10 #[.string s, .int .i64 k] w fun e w' => e = .returned (.bool true) ∧ Below w.heap.size w w' := by
  have HAW := Lib.hid dawake_any
  have hS : StL w w [] := StL.zero hG
  go_enter Tryz.func10, Tryz.ntmps10
  go_wp2_with fail
  refine Calls.mono (Ret.call HAW.out _ hS.g) ?_
  rintro _ w1 ⟨rfl, hB⟩
  replace hS := hS.next hB
  clear hB
  go_wp2_with fail
  go_ret
  exact ⟨rfl, hS.below⟩

set_option maxRecDepth 100000 in
set_option maxHeartbeats 16000000 in
theorem dac_bad (s : ByteArray) (k : Int) (w : World) (hG : Ground w) (hs : s.size ≤ 60) (h0 : 0 ≤ k) (h12 : k ≤ 12) (hg : isDecS s = false) :
    Calls Tryz.prog 10 #[.string s, .int .i64 k] w fun e w' => e = .returned (.bool true) ∧ Below w.heap.size w w' := by
  have HAW := Lib.hid dawake_any
  have hs65 : s.size ≤ 65536 := by omega
  have hc1 : ¬ (60 : Int) < s.size := by omega
  have hc2 : ¬ k < 0 := by omega
  have hc3 : ¬ 12 < k := by omega
  have hok : okP k = true := okP_true h0 h12
  have HPA := Lib.hid (dParse_bad hok hs65 hg)
  have HFR := Lib.hid (fraction_bad hs65 hg)
  clear hs h0 h12 hg hs65 hok
  have hS : StL w w [] := StL.zero hG
  go_enter Tryz.func10, Tryz.ntmps10
  go_wp2_with fail
  refine Calls.mono (Ret.call HPA.out _ hS.g) ?_
  rintro _ w1 ⟨rfl, hB⟩
  replace hS := hS.next hB
  clear hB
  go_wp2_with fail
  refine Calls.mono (Ret.call HFR.out _ hS.g) ?_
  rintro _ w2 ⟨rfl, hB⟩
  replace hS := hS.next hB
  clear hB
  go_upto_region 5 with fail
  obtain ⟨b3, hb3⟩ : ∃ b, b = w2.heap.size := ⟨_, rfl⟩
  obtain ⟨V3, hV3⟩ : ∃ V, V = w2.alloc (.cells #[.string ⟨#[]⟩, .string ⟨#[]⟩] 24) := ⟨_, rfl⟩
  have hT : StL w V3 [(b3, ⟨#[]⟩, ⟨#[]⟩)] := by rw [hV3, hb3]; exact hS.alloc _ _
  rw [← hb3, ← hV3]
  clear hV3 hb3 hS
  have hS := hT
  clear hT
  obtain ⟨fp0, _⟩ := hS.box
  obtain ⟨fx0, fy0, _, _⟩ := fp0.cells
  go_wp2_with fail
  clear fp0 fx0 fy0
  refine Calls.mono (Ret.call HAW.out _ hS.g) ?_
  rintro _ w4 ⟨rfl, hB⟩
  replace hS := hS.next hB
  clear hB
  obtain ⟨fp0, _⟩ := hS.box
  obtain ⟨fx0, fy0, _, _⟩ := fp0.cells
  go_wp2_with fail
  go_ret
  exact ⟨rfl, hS.below⟩

set_option maxRecDepth 100000 in
set_option maxHeartbeats 16000000 in
theorem dac_inexact (s : ByteArray) (k : Int) (w : World) (hG : Ground w) (hs : s.size ≤ 60) (h0 : 0 ≤ k) (h12 : k ≤ 12) (hg : isDecS s = true) (hm : ¬ ∃ m : Int, unitsD s * (10 : Int) ^ k.toNat = m * (10 : Int) ^ placesD s) :
    Calls Tryz.prog 10 #[.string s, .int .i64 k] w fun e w' => e = .returned (.bool true) ∧ Below w.heap.size w w' := by
  have HAW := Lib.hid dawake_any
  have hs65 : s.size ≤ 65536 := by omega
  have hc1 : ¬ (60 : Int) < s.size := by omega
  have hc2 : ¬ k < 0 := by omega
  have hc3 : ¬ 12 < k := by omega
  have hok : okP k = true := okP_true h0 h12
  obtain ⟨p, hp⟩ : ∃ p : Nat, k = p := ⟨k.toNat, by omega⟩
  have hp12 : p ≤ 12 := by omega
  obtain ⟨u, hu⟩ : ∃ u, unitsD s = u := ⟨_, rfl⟩
  obtain ⟨b, hb⟩ : ∃ b, placesD s = b := ⟨_, rfl⟩
  have hcu : Cap 60 u := by rw [← hu]; exact (unitsD_cap hg).mono hs
  have hb60 : b ≤ 60 := by rw [← hb]; exact Nat.le_trans (placesD_le s) hs
  obtain ⟨x, hx⟩ : ∃ x, low (u, (10 : Int) ^ b) = x := ⟨_, rfl⟩
  obtain ⟨t, ht⟩ : ∃ t, (10 : Int) ^ p = t := ⟨_, rfl⟩
  obtain ⟨y, hy⟩ : ∃ y, mulP x (t, 1) = y := ⟨_, rfl⟩
  have HFR := Lib.hid (show Ret 25 #[.string s] (fraE (cS x.1) (cD x.2) 0) from fraction_ok hs65 hg (by rw [hu, hb]; exact hx))
  have HPW := Lib.hid (show Ret 40 #[.string ⟨#[49, 48]⟩, .int .i64 k] (two (cS t) 0) by rw [hp, ← ht]; exact power_ten hp12)
  have HCT := Lib.hid (show (cS t).size ≤ 100000 by rw [← ht]; have := tens_size p; omega)
  have hfv := frac_val (p := b) (k := 61) (hcu.mono (by decide)) (by omega)
  rw [hx] at hfv
  have HXV := Lib.hid (show Val (cS x.1) (cD x.2) x from Val.of hfv.1 hfv.2 (by decide))
  have HTV := Lib.hid (show Val (cS t) ⟨#[]⟩ (t, 1) by rw [← ht]; exact tens_val (by omega))
  have HMU := Lib.hid hy
  have hcy : CapP (61 + 13) y := by rw [← hy, ← ht]; exact CapP.mul hfv.1 ((tens_capP p).mono (by omega)) hfv.2 Int.one_pos
  have hy0 : 0 < y.2 := by rw [← hy]; exact mulP_pos (y := (t, 1)) hfv.2 Int.one_pos
  have HYV := Lib.hid (show Val (cS y.1) (cD y.2) y from Val.of hcy hy0 (by decide))
  have hly : Low y := by rw [← hy]; exact Low.of_mulP (y := (t, 1)) hfv.2 Int.one_pos
  have HLY := Lib.hid hly.eq
  have HYS := Lib.hid (show (cS y.2).size ≤ 4294967295 by have := cS_size hcy.2; omega)
  obtain ⟨c, hc⟩ : ∃ c, cmp3 y.2 1 = c := ⟨_, rfl⟩
  have HC := Lib.hid hc
  rw [show k.toNat = p by omega] at hm
  have hcc : (c == 0) = false := by
    have h2 : y.2 ≠ 1 := by
      rw [← hy, ← hx, ← ht]
      intro e
      exact hm (by rw [hu, hb]; exact units_some.mp e)
    have : c ≠ 0 := by rw [← hc]; intro e; exact h2 ((cmp3_zero _ _).1 e)
    simpa using this
  have HPA := Lib.hid (show Ret 23 #[.string s, .int .i64 k] (two ⟨#[]⟩ 22) by
    rw [hp]
    refine dParse_inexact hs65 hg hp12 fun e => hm ⟨Int.fdiv (unitsD s * (10 : Int) ^ p) ((10 : Int) ^ placesD s), ?_⟩
    have h3 := Int.fmod_add_mul_fdiv (unitsD s * (10 : Int) ^ p) ((10 : Int) ^ placesD s)
    rw [e, Int.zero_add, Int.mul_comm] at h3
    exact h3.symm)
  clear hs h0 h12 hg hs65 hok hp hp12 hu hb hcu hb60 hx ht hy hfv hcy hy0 hly hc hm
  have hS : StL w w [] := StL.zero hG
  go_enter Tryz.func10, Tryz.ntmps10
  go_wp2_with fail
  refine Calls.mono (Ret.call HPA.out _ hS.g) ?_
  rintro _ w1 ⟨rfl, hB⟩
  replace hS := hS.next hB
  clear hB
  go_wp2_with fail
  refine Calls.mono (Ret.call HFR.out _ hS.g) ?_
  rintro _ w2 ⟨rfl, hB⟩
  replace hS := hS.next hB
  clear hB
  go_upto_region 5 with fail
  obtain ⟨b3, hb3⟩ : ∃ b, b = w2.heap.size := ⟨_, rfl⟩
  obtain ⟨V3, hV3⟩ : ∃ V, V = w2.alloc (.cells #[.string (cS x.1), .string (cD x.2)] 24) := ⟨_, rfl⟩
  have hT : StL w V3 [(b3, (cS x.1), (cD x.2))] := by rw [hV3, hb3]; exact hS.alloc _ _
  rw [← hb3, ← hV3]
  clear hV3 hb3 hS
  have hS := hT
  clear hT
  obtain ⟨fp0, _⟩ := hS.box
  obtain ⟨fx0, fy0, _, _⟩ := fp0.cells
  go_wp2_with fail
  clear fp0 fx0 fy0
  refine Calls.mono (Ret.call HPW.out _ hS.g) ?_
  rintro _ w4 ⟨rfl, hB⟩
  replace hS := hS.next hB
  clear hB
  obtain ⟨fp0, _⟩ := hS.box
  obtain ⟨fx0, fy0, _, _⟩ := fp0.cells
  go_upto_region 8 with fail
  clear fp0 fx0 fy0
  obtain ⟨fp0, _⟩ := hS.box
  obtain ⟨fx0, fy0, _, _⟩ := fp0.cells
  try go_upto_region 8 with fail
  have HS := Lib.hid hS
  clear hS
  have hne0 : w4.heap.size ≠ b3 := World.new_ne w4 _ fx0
  have hle0_0 : b3 < w4.heap.size := fp0.lt
  go_cut [11] (fun s11 wx => ∃ b4_0 : Nat, s11 = .pointer (some ⟨b4_0, 0, none⟩) ∧ StL w wx [(b4_0, (cS y.1), (cD y.2)), (b3, (cS x.1), (cD x.2))])
  case first =>
    go_region_held3 (fun w' => w'.cell? ⟨b3, 0, none⟩ = some (.string (cS x.1)) ∧ w'.cell? ⟨b3, 1, none⟩ = some (.string (cD x.2)))
      (go_keep)
      (first
    | (go_at_call 31;
         (with_reducible refine Calls.mono (fOf_v (p := t) _ (by first | exact HS.out.g | exact HS.out.drew.g | exact (HS.out.drewN _).g | exact (HS.out.other _).g | exact (HS.out.drew.other _).g | exact (HS.out.other _).drew.g | exact ((HS.out.other _).other _).g | exact ((HS.out.drew.other _).other _).g | exact ((HS.out.other _).other _).drew.g | exact ((HS.out.drew.other _).drew.other _).g | exact ((HS.out.other _).drew.other _).g) HCT.out (vS_cS _)) ?_);
         (rintro e X4_1 ⟨rfl, hB1⟩);
         (first
           | ((have HS2 : StL w X4_1 ([(b3, (cS x.1), (cD x.2))]) := (by first | exact HS.out.next hB1 | exact HS.out.next1 hB1 | exact HS.out.nextD hB1 | exact (HS.out.alloc _ _).next hB1 | exact (HS.out.drew.alloc _ _).next hB1 | exact (HS.out.alloc _ _).drew.next hB1 | exact (HS.out.alloc2 _ _ _ _).next hB1 | exact (HS.out.drew.alloc2 _ _ _ _).next hB1 | exact (HS.out.alloc2 _ _ _ _).drew.next hB1)); (replace HS := Lib.hid HS2); (clear HS2); (obtain ⟨fp0, _⟩ := HS.out.box); (obtain ⟨fx0, fy0, _, _⟩ := fp0.cells); (have hle0_1 : b3 < X4_1.heap.size := fp0.lt))
           | ((have HS2 : StL w X4_1 ((w4.heap.size, ⟨#[]⟩, ⟨#[]⟩) :: [(b3, (cS x.1), (cD x.2))]) := (by first | exact HS.out.next hB1 | exact HS.out.next1 hB1 | exact HS.out.nextD hB1 | exact (HS.out.alloc _ _).next hB1 | exact (HS.out.drew.alloc _ _).next hB1 | exact (HS.out.alloc _ _).drew.next hB1 | exact (HS.out.alloc2 _ _ _ _).next hB1 | exact (HS.out.drew.alloc2 _ _ _ _).next hB1 | exact (HS.out.alloc2 _ _ _ _).drew.next hB1)); (replace HS := Lib.hid HS2); (clear HS2); (obtain ⟨pn0, fp0, _⟩ := HS.out.box); (obtain ⟨nx0, ny0, nz0, nw0⟩ := pn0.cells); (have hnp0 : X4_1.heap.size ≠ w4.heap.size := World.new_ne _ _ nx0); (have hnq0 : w4.heap.size < X4_1.heap.size := pn0.lt); (obtain ⟨fx0, fy0, _, _⟩ := fp0.cells); (have hle0_1 : b3 < X4_1.heap.size := fp0.lt); (have hnr0_0 : w4.heap.size ≠ b3 := (by omega))));
         (clear hB1);
         (have hne0 : X4_1.heap.size ≠ b3 := World.new_ne X4_1 _ fx0))
    | (go_at_call 42;
         (with_reducible refine Calls.mono (fMul_v (z := y) _ (by first | exact HS.out.g | exact HS.out.drew.g | exact (HS.out.drewN _).g | exact (HS.out.other _).g | exact (HS.out.drew.other _).g | exact (HS.out.other _).drew.g | exact ((HS.out.other _).other _).g | exact ((HS.out.drew.other _).other _).g | exact ((HS.out.other _).other _).drew.g | exact ((HS.out.drew.other _).drew.other _).g | exact ((HS.out.other _).drew.other _).g) HXV.out HTV.out HMU.out) ?_);
         (rintro e X4_2 ⟨rfl, hB1⟩);
         (first
           | ((have HS2 : StL w X4_2 ([(b3, (cS x.1), (cD x.2))]) := (by first | exact HS.out.next hB1 | exact HS.out.next1 hB1 | exact HS.out.nextD hB1 | exact (HS.out.alloc _ _).next hB1 | exact (HS.out.drew.alloc _ _).next hB1 | exact (HS.out.alloc _ _).drew.next hB1 | exact (HS.out.alloc2 _ _ _ _).next hB1 | exact (HS.out.drew.alloc2 _ _ _ _).next hB1 | exact (HS.out.alloc2 _ _ _ _).drew.next hB1)); (replace HS := Lib.hid HS2); (clear HS2); (obtain ⟨fp0, _⟩ := HS.out.box); (obtain ⟨fx0, fy0, _, _⟩ := fp0.cells); (have hle0_2 : b3 < X4_2.heap.size := fp0.lt))
           | ((have HS2 : StL w X4_2 ((X4_1.heap.size, ⟨#[]⟩, ⟨#[]⟩) :: [(b3, (cS x.1), (cD x.2))]) := (by first | exact HS.out.next hB1 | exact HS.out.next1 hB1 | exact HS.out.nextD hB1 | exact (HS.out.alloc _ _).next hB1 | exact (HS.out.drew.alloc _ _).next hB1 | exact (HS.out.alloc _ _).drew.next hB1 | exact (HS.out.alloc2 _ _ _ _).next hB1 | exact (HS.out.drew.alloc2 _ _ _ _).next hB1 | exact (HS.out.alloc2 _ _ _ _).drew.next hB1)); (replace HS := Lib.hid HS2); (clear HS2); (obtain ⟨pn0, fp0, _⟩ := HS.out.box); (obtain ⟨nx0, ny0, nz0, nw0⟩ := pn0.cells); (have hnp0 : X4_2.heap.size ≠ X4_1.heap.size := World.new_ne _ _ nx0); (have hnq0 : X4_1.heap.size < X4_2.heap.size := pn0.lt); (obtain ⟨fx0, fy0, _, _⟩ := fp0.cells); (have hle0_2 : b3 < X4_2.heap.size := fp0.lt); (have hnr0_0 : X4_1.heap.size ≠ b3 := (by omega)))
           | ((have HS2 : StL w X4_2 ((w4.heap.size, ⟨#[]⟩, ⟨#[]⟩) :: [(b3, (cS x.1), (cD x.2))]) := (by first | exact HS.out.next hB1 | exact HS.out.next1 hB1 | exact HS.out.nextD hB1 | exact (HS.out.alloc _ _).next hB1 | exact (HS.out.drew.alloc _ _).next hB1 | exact (HS.out.alloc _ _).drew.next hB1 | exact (HS.out.alloc2 _ _ _ _).next hB1 | exact (HS.out.drew.alloc2 _ _ _ _).next hB1 | exact (HS.out.alloc2 _ _ _ _).drew.next hB1)); (replace HS := Lib.hid HS2); (clear HS2); (obtain ⟨pn0, fp0, _⟩ := HS.out.box); (obtain ⟨nx0, ny0, nz0, nw0⟩ := pn0.cells); (have hnp0 : X4_2.heap.size ≠ w4.heap.size := World.new_ne _ _ nx0); (have hnq0 : w4.heap.size < X4_2.heap.size := pn0.lt); (obtain ⟨fx0, fy0, _, _⟩ := fp0.cells); (have hle0_2 : b3 < X4_2.heap.size := fp0.lt); (have hnr0_0 : w4.heap.size ≠ b3 := (by omega))));
         (clear hB1);
         (have hne0 : X4_2.heap.size ≠ b3 := World.new_ne X4_2 _ fx0)))
    all_goals go_wp2_with fail
    all_goals go_meet
    all_goals refine ⟨_, rfl, ?_⟩
    all_goals first
      | with_reducible exact HS.out.alloc _ _
      | with_reducible exact StL.fill hG HS.out _ _
      | with_reducible exact (HS.out.alloc _ _).drew
      | with_reducible exact HS.out.drew.alloc _ _
      | with_reducible exact StL.fill hG HS.out.drew _ _
      | with_reducible exact (HS.out.drew.alloc _ _).drew
  clear HS hne0 hle0_0
  clear fp0 fx0 fy0
  obtain ⟨b4_0, rfl, hS⟩ := hcut
  obtain ⟨w5, hw⟩ : ∃ W, W = wc := ⟨_, rfl⟩
  rw [← hw] at hS
  rw [← hw]
  clear hw
  obtain ⟨fp0, fp1, _⟩ := hS.box
  obtain ⟨fx0, fy0, _, _⟩ := fp0.cells
  obtain ⟨fx1, fy1, _, _⟩ := fp1.cells
  go_wp2_with fail
  clear fp0 fx0 fy0 fp1 fx1 fy1
  refine Calls.mono (fParts_v (z := y) _ hS.g HYV.out HLY.out) ?_
  rintro _ w6 ⟨rfl, hB⟩
  replace hS := hS.next hB
  clear hB
  obtain ⟨fp0, fp1, _⟩ := hS.box
  obtain ⟨fx0, fy0, _, _⟩ := fp0.cells
  obtain ⟨fx1, fy1, _, _⟩ := fp1.cells
  go_wp2_with fail
  clear fp0 fx0 fy0 fp1 fx1 fy1
  refine Calls.mono (compare_v (x := y.2) (y := 1) (z := c) _ HYS.out (by decide) (vS_cS _) vS_one HC.out) ?_
  rintro _ w7 ⟨rfl, hB⟩
  replace hS := hS.next hB
  clear hB
  obtain ⟨fp0, fp1, _⟩ := hS.box
  obtain ⟨fx0, fy0, _, _⟩ := fp0.cells
  obtain ⟨fx1, fy1, _, _⟩ := fp1.cells
  go_wp2_with fail
  clear fp0 fx0 fy0 fp1 fx1 fy1
  refine Calls.mono (Ret.call HAW.out _ hS.g) ?_
  rintro _ w8 ⟨rfl, hB⟩
  replace hS := hS.next hB
  clear hB
  obtain ⟨fp0, fp1, _⟩ := hS.box
  obtain ⟨fx0, fy0, _, _⟩ := fp0.cells
  obtain ⟨fx1, fy1, _, _⟩ := fp1.cells
  go_wp2_with fail
  go_ret
  exact ⟨rfl, hS.below⟩

set_option maxRecDepth 100000 in
set_option maxHeartbeats 16000000 in
theorem dac_exact (s : ByteArray) (k : Int) (w : World) (hG : Ground w) (hs : s.size ≤ 60) (h0 : 0 ≤ k) (h12 : k ≤ 12) (hg : isDecS s = true) (m : Int) (hm : unitsD s * (10 : Int) ^ k.toNat = m * (10 : Int) ^ placesD s) :
    Calls Tryz.prog 10 #[.string s, .int .i64 k] w fun e w' => e = .returned (.bool true) ∧ Below w.heap.size w w' := by
  have HAW := Lib.hid dawake_any
  have hs65 : s.size ≤ 65536 := by omega
  have hc1 : ¬ (60 : Int) < s.size := by omega
  have hc2 : ¬ k < 0 := by omega
  have hc3 : ¬ 12 < k := by omega
  have hok : okP k = true := okP_true h0 h12
  obtain ⟨p, hp⟩ : ∃ p : Nat, k = p := ⟨k.toNat, by omega⟩
  have hp12 : p ≤ 12 := by omega
  obtain ⟨u, hu⟩ : ∃ u, unitsD s = u := ⟨_, rfl⟩
  obtain ⟨b, hb⟩ : ∃ b, placesD s = b := ⟨_, rfl⟩
  have hcu : Cap 60 u := by rw [← hu]; exact (unitsD_cap hg).mono hs
  have hb60 : b ≤ 60 := by rw [← hb]; exact Nat.le_trans (placesD_le s) hs
  obtain ⟨x, hx⟩ : ∃ x, low (u, (10 : Int) ^ b) = x := ⟨_, rfl⟩
  obtain ⟨t, ht⟩ : ∃ t, (10 : Int) ^ p = t := ⟨_, rfl⟩
  obtain ⟨y, hy⟩ : ∃ y, mulP x (t, 1) = y := ⟨_, rfl⟩
  have HFR := Lib.hid (show Ret 25 #[.string s] (fraE (cS x.1) (cD x.2) 0) from fraction_ok hs65 hg (by rw [hu, hb]; exact hx))
  have HPW := Lib.hid (show Ret 40 #[.string ⟨#[49, 48]⟩, .int .i64 k] (two (cS t) 0) by rw [hp, ← ht]; exact power_ten hp12)
  have HCT := Lib.hid (show (cS t).size ≤ 100000 by rw [← ht]; have := tens_size p; omega)
  have hfv := frac_val (p := b) (k := 61) (hcu.mono (by decide)) (by omega)
  rw [hx] at hfv
  have HXV := Lib.hid (show Val (cS x.1) (cD x.2) x from Val.of hfv.1 hfv.2 (by decide))
  have HTV := Lib.hid (show Val (cS t) ⟨#[]⟩ (t, 1) by rw [← ht]; exact tens_val (by omega))
  have HMU := Lib.hid hy
  have hcy : CapP (61 + 13) y := by rw [← hy, ← ht]; exact CapP.mul hfv.1 ((tens_capP p).mono (by omega)) hfv.2 Int.one_pos
  have hy0 : 0 < y.2 := by rw [← hy]; exact mulP_pos (y := (t, 1)) hfv.2 Int.one_pos
  have HYV := Lib.hid (show Val (cS y.1) (cD y.2) y from Val.of hcy hy0 (by decide))
  have hly : Low y := by rw [← hy]; exact Low.of_mulP (y := (t, 1)) hfv.2 Int.one_pos
  have HLY := Lib.hid hly.eq
  have HYS := Lib.hid (show (cS y.2).size ≤ 4294967295 by have := cS_size hcy.2; omega)
  obtain ⟨c, hc⟩ : ∃ c, cmp3 y.2 1 = c := ⟨_, rfl⟩
  have HC := Lib.hid hc
  rw [show k.toNat = p by omega] at hm
  have hym : y = (m, 1) := by rw [← hy, ← hx, ← ht]; exact units_is.mpr (by rw [← hu, ← hb]; exact hm)
  have hcc : (c == 0) = true := by rw [← hc, hym]; rfl
  have hcm : Cap (61 + 13) m := by have := hcy.1; rwa [hym] at this
  obtain ⟨T, hT⟩ : ∃ T, T = txt m p := ⟨_, rfl⟩
  obtain ⟨q, hq⟩ : ∃ q, q = trimS s := ⟨_, rfl⟩
  have HPA := Lib.hid (show Ret 23 #[.string s, .int .i64 k] (two (cS m) 0) by rw [hp]; exact dParse_ok hs65 hg hp12 hm)
  have HTX := Lib.hid (show Ret 21 #[.string (cS m), .int .i64 k] (two T 0) by rw [hp, hT]; exact text_ok (by have := cS_size hcm; omega) (vS_cS m) hp12)
  have HT1 := Lib.hid (show Ret 45 #[.string T] (.string q) by rw [hq, ← trim_alike hg hm, ← hT]; exact trim_ret T (by rw [hT]; have := txt_size p hcm; omega))
  have HT2 := Lib.hid (show Ret 45 #[.string s] (.string q) by rw [hq]; exact trim_ret s (by omega))
  have HMS := Lib.hid (show (cS m).size ≤ 100000 by have := cS_size hcm; omega)
  have HMV := Lib.hid (int_val hcm (by decide))
  have HCP := Lib.hid (show cmpP y (m, 1) = 0 by rw [hym]; exact cmp_same _)
  clear hs h0 h12 hg hs65 hok hp hp12 hu hb hcu hb60 hx ht hy hfv hcy hy0 hly hc hm hym hcm hT hq
  have hS : StL w w [] := StL.zero hG
  go_enter Tryz.func10, Tryz.ntmps10
  go_wp2_with fail
  refine Calls.mono (Ret.call HPA.out _ hS.g) ?_
  rintro _ w1 ⟨rfl, hB⟩
  replace hS := hS.next hB
  clear hB
  go_wp2_with fail
  refine Calls.mono (Ret.call HFR.out _ hS.g) ?_
  rintro _ w2 ⟨rfl, hB⟩
  replace hS := hS.next hB
  clear hB
  go_upto_region 5 with fail
  obtain ⟨b3, hb3⟩ : ∃ b, b = w2.heap.size := ⟨_, rfl⟩
  obtain ⟨V3, hV3⟩ : ∃ V, V = w2.alloc (.cells #[.string (cS x.1), .string (cD x.2)] 24) := ⟨_, rfl⟩
  have hT : StL w V3 [(b3, (cS x.1), (cD x.2))] := by rw [hV3, hb3]; exact hS.alloc _ _
  rw [← hb3, ← hV3]
  clear hV3 hb3 hS
  have hS := hT
  clear hT
  obtain ⟨fp0, _⟩ := hS.box
  obtain ⟨fx0, fy0, _, _⟩ := fp0.cells
  go_wp2_with fail
  clear fp0 fx0 fy0
  refine Calls.mono (Ret.call HPW.out _ hS.g) ?_
  rintro _ w4 ⟨rfl, hB⟩
  replace hS := hS.next hB
  clear hB
  obtain ⟨fp0, _⟩ := hS.box
  obtain ⟨fx0, fy0, _, _⟩ := fp0.cells
  go_upto_region 8 with fail
  clear fp0 fx0 fy0
  obtain ⟨fp0, _⟩ := hS.box
  obtain ⟨fx0, fy0, _, _⟩ := fp0.cells
  try go_upto_region 8 with fail
  have HS := Lib.hid hS
  clear hS
  have hne0 : w4.heap.size ≠ b3 := World.new_ne w4 _ fx0
  have hle0_0 : b3 < w4.heap.size := fp0.lt
  go_cut [11] (fun s11 wx => ∃ b4_0 : Nat, s11 = .pointer (some ⟨b4_0, 0, none⟩) ∧ StL w wx [(b4_0, (cS y.1), (cD y.2)), (b3, (cS x.1), (cD x.2))])
  case first =>
    go_region_held3 (fun w' => w'.cell? ⟨b3, 0, none⟩ = some (.string (cS x.1)) ∧ w'.cell? ⟨b3, 1, none⟩ = some (.string (cD x.2)))
      (go_keep)
      (first
    | (go_at_call 31;
         (with_reducible refine Calls.mono (fOf_v (p := t) _ (by first | exact HS.out.g | exact HS.out.drew.g | exact (HS.out.drewN _).g | exact (HS.out.other _).g | exact (HS.out.drew.other _).g | exact (HS.out.other _).drew.g | exact ((HS.out.other _).other _).g | exact ((HS.out.drew.other _).other _).g | exact ((HS.out.other _).other _).drew.g | exact ((HS.out.drew.other _).drew.other _).g | exact ((HS.out.other _).drew.other _).g) HCT.out (vS_cS _)) ?_);
         (rintro e X4_1 ⟨rfl, hB1⟩);
         (first
           | ((have HS2 : StL w X4_1 ([(b3, (cS x.1), (cD x.2))]) := (by first | exact HS.out.next hB1 | exact HS.out.next1 hB1 | exact HS.out.nextD hB1 | exact (HS.out.alloc _ _).next hB1 | exact (HS.out.drew.alloc _ _).next hB1 | exact (HS.out.alloc _ _).drew.next hB1 | exact (HS.out.alloc2 _ _ _ _).next hB1 | exact (HS.out.drew.alloc2 _ _ _ _).next hB1 | exact (HS.out.alloc2 _ _ _ _).drew.next hB1)); (replace HS := Lib.hid HS2); (clear HS2); (obtain ⟨fp0, _⟩ := HS.out.box); (obtain ⟨fx0, fy0, _, _⟩ := fp0.cells); (have hle0_1 : b3 < X4_1.heap.size := fp0.lt))
           | ((have HS2 : StL w X4_1 ((w4.heap.size, ⟨#[]⟩, ⟨#[]⟩) :: [(b3, (cS x.1), (cD x.2))]) := (by first | exact HS.out.next hB1 | exact HS.out.next1 hB1 | exact HS.out.nextD hB1 | exact (HS.out.alloc _ _).next hB1 | exact (HS.out.drew.alloc _ _).next hB1 | exact (HS.out.alloc _ _).drew.next hB1 | exact (HS.out.alloc2 _ _ _ _).next hB1 | exact (HS.out.drew.alloc2 _ _ _ _).next hB1 | exact (HS.out.alloc2 _ _ _ _).drew.next hB1)); (replace HS := Lib.hid HS2); (clear HS2); (obtain ⟨pn0, fp0, _⟩ := HS.out.box); (obtain ⟨nx0, ny0, nz0, nw0⟩ := pn0.cells); (have hnp0 : X4_1.heap.size ≠ w4.heap.size := World.new_ne _ _ nx0); (have hnq0 : w4.heap.size < X4_1.heap.size := pn0.lt); (obtain ⟨fx0, fy0, _, _⟩ := fp0.cells); (have hle0_1 : b3 < X4_1.heap.size := fp0.lt); (have hnr0_0 : w4.heap.size ≠ b3 := (by omega))));
         (clear hB1);
         (have hne0 : X4_1.heap.size ≠ b3 := World.new_ne X4_1 _ fx0))
    | (go_at_call 42;
         (with_reducible refine Calls.mono (fMul_v (z := y) _ (by first | exact HS.out.g | exact HS.out.drew.g | exact (HS.out.drewN _).g | exact (HS.out.other _).g | exact (HS.out.drew.other _).g | exact (HS.out.other _).drew.g | exact ((HS.out.other _).other _).g | exact ((HS.out.drew.other _).other _).g | exact ((HS.out.other _).other _).drew.g | exact ((HS.out.drew.other _).drew.other _).g | exact ((HS.out.other _).drew.other _).g) HXV.out HTV.out HMU.out) ?_);
         (rintro e X4_2 ⟨rfl, hB1⟩);
         (first
           | ((have HS2 : StL w X4_2 ([(b3, (cS x.1), (cD x.2))]) := (by first | exact HS.out.next hB1 | exact HS.out.next1 hB1 | exact HS.out.nextD hB1 | exact (HS.out.alloc _ _).next hB1 | exact (HS.out.drew.alloc _ _).next hB1 | exact (HS.out.alloc _ _).drew.next hB1 | exact (HS.out.alloc2 _ _ _ _).next hB1 | exact (HS.out.drew.alloc2 _ _ _ _).next hB1 | exact (HS.out.alloc2 _ _ _ _).drew.next hB1)); (replace HS := Lib.hid HS2); (clear HS2); (obtain ⟨fp0, _⟩ := HS.out.box); (obtain ⟨fx0, fy0, _, _⟩ := fp0.cells); (have hle0_2 : b3 < X4_2.heap.size := fp0.lt))
           | ((have HS2 : StL w X4_2 ((X4_1.heap.size, ⟨#[]⟩, ⟨#[]⟩) :: [(b3, (cS x.1), (cD x.2))]) := (by first | exact HS.out.next hB1 | exact HS.out.next1 hB1 | exact HS.out.nextD hB1 | exact (HS.out.alloc _ _).next hB1 | exact (HS.out.drew.alloc _ _).next hB1 | exact (HS.out.alloc _ _).drew.next hB1 | exact (HS.out.alloc2 _ _ _ _).next hB1 | exact (HS.out.drew.alloc2 _ _ _ _).next hB1 | exact (HS.out.alloc2 _ _ _ _).drew.next hB1)); (replace HS := Lib.hid HS2); (clear HS2); (obtain ⟨pn0, fp0, _⟩ := HS.out.box); (obtain ⟨nx0, ny0, nz0, nw0⟩ := pn0.cells); (have hnp0 : X4_2.heap.size ≠ X4_1.heap.size := World.new_ne _ _ nx0); (have hnq0 : X4_1.heap.size < X4_2.heap.size := pn0.lt); (obtain ⟨fx0, fy0, _, _⟩ := fp0.cells); (have hle0_2 : b3 < X4_2.heap.size := fp0.lt); (have hnr0_0 : X4_1.heap.size ≠ b3 := (by omega)))
           | ((have HS2 : StL w X4_2 ((w4.heap.size, ⟨#[]⟩, ⟨#[]⟩) :: [(b3, (cS x.1), (cD x.2))]) := (by first | exact HS.out.next hB1 | exact HS.out.next1 hB1 | exact HS.out.nextD hB1 | exact (HS.out.alloc _ _).next hB1 | exact (HS.out.drew.alloc _ _).next hB1 | exact (HS.out.alloc _ _).drew.next hB1 | exact (HS.out.alloc2 _ _ _ _).next hB1 | exact (HS.out.drew.alloc2 _ _ _ _).next hB1 | exact (HS.out.alloc2 _ _ _ _).drew.next hB1)); (replace HS := Lib.hid HS2); (clear HS2); (obtain ⟨pn0, fp0, _⟩ := HS.out.box); (obtain ⟨nx0, ny0, nz0, nw0⟩ := pn0.cells); (have hnp0 : X4_2.heap.size ≠ w4.heap.size := World.new_ne _ _ nx0); (have hnq0 : w4.heap.size < X4_2.heap.size := pn0.lt); (obtain ⟨fx0, fy0, _, _⟩ := fp0.cells); (have hle0_2 : b3 < X4_2.heap.size := fp0.lt); (have hnr0_0 : w4.heap.size ≠ b3 := (by omega))));
         (clear hB1);
         (have hne0 : X4_2.heap.size ≠ b3 := World.new_ne X4_2 _ fx0)))
    all_goals go_wp2_with fail
    all_goals go_meet
    all_goals refine ⟨_, rfl, ?_⟩
    all_goals first
      | with_reducible exact HS.out.alloc _ _
      | with_reducible exact StL.fill hG HS.out _ _
      | with_reducible exact (HS.out.alloc _ _).drew
      | with_reducible exact HS.out.drew.alloc _ _
      | with_reducible exact StL.fill hG HS.out.drew _ _
      | with_reducible exact (HS.out.drew.alloc _ _).drew
  clear HS hne0 hle0_0
  clear fp0 fx0 fy0
  obtain ⟨b4_0, rfl, hS⟩ := hcut
  obtain ⟨w5, hw⟩ : ∃ W, W = wc := ⟨_, rfl⟩
  rw [← hw] at hS
  rw [← hw]
  clear hw
  obtain ⟨fp0, fp1, _⟩ := hS.box
  obtain ⟨fx0, fy0, _, _⟩ := fp0.cells
  obtain ⟨fx1, fy1, _, _⟩ := fp1.cells
  go_wp2_with fail
  clear fp0 fx0 fy0 fp1 fx1 fy1
  refine Calls.mono (fParts_v (z := y) _ hS.g HYV.out HLY.out) ?_
  rintro _ w6 ⟨rfl, hB⟩
  replace hS := hS.next hB
  clear hB
  obtain ⟨fp0, fp1, _⟩ := hS.box
  obtain ⟨fx0, fy0, _, _⟩ := fp0.cells
  obtain ⟨fx1, fy1, _, _⟩ := fp1.cells
  go_wp2_with fail
  clear fp0 fx0 fy0 fp1 fx1 fy1
  refine Calls.mono (compare_v (x := y.2) (y := 1) (z := c) _ HYS.out (by decide) (vS_cS _) vS_one HC.out) ?_
  rintro _ w7 ⟨rfl, hB⟩
  replace hS := hS.next hB
  clear hB
  obtain ⟨fp0, fp1, _⟩ := hS.box
  obtain ⟨fx0, fy0, _, _⟩ := fp0.cells
  obtain ⟨fx1, fy1, _, _⟩ := fp1.cells
  go_wp2_with fail
  clear fp0 fx0 fy0 fp1 fx1 fy1
  refine Calls.mono (Ret.call HTX.out _ hS.g) ?_
  rintro _ w8 ⟨rfl, hB⟩
  replace hS := hS.next hB
  clear hB
  obtain ⟨fp0, fp1, _⟩ := hS.box
  obtain ⟨fx0, fy0, _, _⟩ := fp0.cells
  obtain ⟨fx1, fy1, _, _⟩ := fp1.cells
  go_upto_region 16 with fail
  clear fp0 fx0 fy0 fp1 fx1 fy1
  obtain ⟨fp0, fp1, _⟩ := hS.box
  obtain ⟨fx0, fy0, _, _⟩ := fp0.cells
  obtain ⟨fx1, fy1, _, _⟩ := fp1.cells
  try go_upto_region 16 with fail
  have HS := Lib.hid hS
  clear hS
  go_cut [4] (fun s4 wx => s4 = .bool true ∧ StL w wx [(b4_0, (cS y.1), (cD y.2)), (b3, (cS x.1), (cD x.2))])
  case first =>
    go_region_held3 (fun w' => w'.cell? ⟨b4_0, 0, none⟩ = some (.string (cS y.1)) ∧ w'.cell? ⟨b4_0, 1, none⟩ = some (.string (cD y.2)) ∧ w'.cell? ⟨b3, 0, none⟩ = some (.string (cS x.1)) ∧ w'.cell? ⟨b3, 1, none⟩ = some (.string (cD x.2)))
      (go_keep)
      (first
    | (go_at_call 45;
         (first
           | (with_reducible refine Calls.mono (Ret.call HT1.out _ (by first | exact HS.out.g | exact HS.out.drew.g | exact (HS.out.drewN _).g)) ?_)
           | (with_reducible refine Calls.mono (Ret.call HT2.out _ (by first | exact HS.out.g | exact HS.out.drew.g | exact (HS.out.drewN _).g)) ?_));
         (rintro e WX ⟨rfl, hB1⟩);
         (have HS2 : StL w WX [(b4_0, (cS y.1), (cD y.2)), (b3, (cS x.1), (cD x.2))] := (by first | exact HS.out.next hB1 | exact HS.out.next1 hB1 | exact HS.out.nextD hB1));
         (replace HS := Lib.hid HS2);
         (clear hB1 HS2);
         (obtain ⟨fp0, fp1, _⟩ := HS.out.box);
         (obtain ⟨fx0, fy0, _, _⟩ := fp0.cells);
         (obtain ⟨fx1, fy1, _, _⟩ := fp1.cells))
    | (go_at_call 31;
         (first
           | (with_reducible refine Calls.mono (fOf_v (p := m) _ (by first | exact HS.out.g | exact HS.out.drew.g | exact (HS.out.drewN _).g) HMS.out (vS_cS _)) ?_));
         (rintro e WX ⟨rfl, hB1⟩);
         (have HS2 : StL w WX [(b4_0, (cS y.1), (cD y.2)), (b3, (cS x.1), (cD x.2))] := (by first | exact HS.out.next hB1 | exact HS.out.next1 hB1 | exact HS.out.nextD hB1));
         (replace HS := Lib.hid HS2);
         (clear hB1 HS2);
         (obtain ⟨fp0, fp1, _⟩ := HS.out.box);
         (obtain ⟨fx0, fy0, _, _⟩ := fp0.cells);
         (obtain ⟨fx1, fy1, _, _⟩ := fp1.cells))
    | (go_at_call 29;
         (first
           | (with_reducible refine Calls.mono (fCompare_v (c := 0) _ (by first | exact HS.out.g | exact HS.out.drew.g | exact (HS.out.drewN _).g) HYV.out HMV.out HCP.out) ?_));
         (rintro e WX ⟨rfl, hB1⟩);
         (have HS2 : StL w WX [(b4_0, (cS y.1), (cD y.2)), (b3, (cS x.1), (cD x.2))] := (by first | exact HS.out.next hB1 | exact HS.out.next1 hB1 | exact HS.out.nextD hB1));
         (replace HS := Lib.hid HS2);
         (clear hB1 HS2);
         (obtain ⟨fp0, fp1, _⟩ := HS.out.box);
         (obtain ⟨fx0, fy0, _, _⟩ := fp0.cells);
         (obtain ⟨fx1, fy1, _, _⟩ := fp1.cells))
    | (go_at_call 12;
         (first
           | (with_reducible refine Calls.mono (Ret.call HAW.out _ (by first | exact HS.out.g | exact HS.out.drew.g | exact (HS.out.drewN _).g)) ?_));
         (rintro e WX ⟨rfl, hB1⟩);
         (have HS2 : StL w WX [(b4_0, (cS y.1), (cD y.2)), (b3, (cS x.1), (cD x.2))] := (by first | exact HS.out.next hB1 | exact HS.out.next1 hB1 | exact HS.out.nextD hB1));
         (replace HS := Lib.hid HS2);
         (clear hB1 HS2);
         (obtain ⟨fp0, fp1, _⟩ := HS.out.box);
         (obtain ⟨fx0, fy0, _, _⟩ := fp0.cells);
         (obtain ⟨fx1, fy1, _, _⟩ := fp1.cells)))
    all_goals go_wp2_with fail
    all_goals go_meet
    all_goals exact ⟨rfl, (by first | exact HS.out | exact HS.out.drew | exact HS.out.drewN _)⟩
  clear HS
  clear fp0 fx0 fy0 fp1 fx1 fy1
  obtain ⟨rfl, hS⟩ := hcut
  obtain ⟨w9, hw⟩ : ∃ W, W = wc := ⟨_, rfl⟩
  rw [← hw] at hS
  rw [← hw]
  clear hw
  go_wp2_with fail
  go_ret
  exact ⟨rfl, hS.below⟩

theorem dac_any (s : ByteArray) (k : Int) (w : World) (hG : Ground w) :
    Calls Tryz.prog 10 #[.string s, .int .i64 k] w fun e w' => e = .returned (.bool true) ∧ Below w.heap.size w w' := by
  by_cases hs : s.size ≤ 60
  · by_cases h0 : k < 0
    · exact dac_lo s k w hG (by omega) h0
    · by_cases h12 : 12 < k
      · exact dac_hi s k w hG (by omega) h0 h12
      · cases hg : isDecS s
        · exact dac_bad s k w hG hs (by omega) (by omega) hg
        · by_cases hm : ∃ m : Int, unitsD s * (10 : Int) ^ k.toNat = m * (10 : Int) ^ placesD s
          · obtain ⟨m, hm⟩ := hm
            exact dac_exact s k w hG hs (by omega) (by omega) hg m hm
          · exact dac_inexact s k w hG hs (by omega) (by omega) hg hm
  · exact dac_size s k w hG (by omega)

end Go.Proofs.YtlonbfddhfacmaaGreatDoor
