/- The reference of layer 3: Fraction: no text. -/
import Derived.Test.YtahnkmkmoalbhaaGreatDoorZBE
import Derived.Test.YtahnkmkmoalbhaaGreatDoorZBJ
import Derived.Test.YtahnkmkmoalbhaaGreatDoorZBK
import Derived.Deep.DeepCutAuto
import Derived.Deep.RegionWith
import Derived.Laws.NewBlocks
import Derived.Lib.Strings
import Init
namespace Go.Proofs.YtahnkmkmoalbhaaGreatDoor
open Go.RowKit Fra

set_option maxRecDepth 100000 in
set_option maxHeartbeats 8000000 in
theorem kFra_e {s : ByteArray} (hs : s.size ≤ 60) (hne : s.toList.isEmpty = true) (hcut : Num.cut s.data.toList = (false, s.data.toList)) : Ret 92 #[.string s] (frE s) := by
  intro w hG
  have hRs : s.size ≤ 60 := hs
  obtain ⟨d, hd⟩ : ∃ d, Num.dot s.data.toList = d := ⟨_, rfl⟩
  have hdl : d ≤ s.size := by rw [← hd, ← size_toList]; exact Num.dot_le _
  obtain ⟨W0, hW0⟩ : ∃ W0, W0 = w.alloc (.cells #[.string ⟨#[]⟩, .string ⟨#[]⟩] 59) := ⟨_, rfl⟩
  have hS0 : StL w W0 [(w.heap.size, ⟨#[]⟩, ⟨#[]⟩)] := by rw [hW0]; exact StL.one hG _ _
  have hsz : ¬ (65536 : Int) < s.size := by omega
  have HD := Lib.hid hd
  have HCU := Lib.hid hcut
  clear hd hcut
  go_enter Tryz.func92, Tryz.ntmps92
  go_wp2_with fail
  rw [← hW0]
  clear hW0
  obtain ⟨V, hV⟩ : ∃ V, V = W0 := ⟨_, rfl⟩
  have hS : StL w V [(w.heap.size, ⟨#[]⟩, ⟨#[]⟩)] := by rw [hV]; exact hS0
  rw [← hV]
  clear hV hS0
  obtain ⟨E0, hE0⟩ : ∃ F : ByteArray, F = ⟨#[]⟩ := ⟨_, rfl⟩
  have HE0 := Lib.hid hE0
  clear hE0
  have HSt := Lib.hid hS
  clear hS
  go_loopw [6, 7, 8] (fun wv fv iv wr => ∃ k : Nat, k ≤ d ∧ wv = .string s ∧ fv = .string E0 ∧ iv = .int .i64 (k : Int) ∧ V = wr) (fun _ _ iv _ => s.size - (intOf iv).toNat)
  case atStart => exact ⟨0, Nat.zero_le _, rfl, by rw [HE0.out], rfl, rfl⟩
  case round =>
    obtain ⟨k, hk, rfl, rfl, rfl, rfl⟩ := hrel
    by_cases hlt : k < s.size
    · have hlti : (k : Int) < s.size := by omega
      have hlt' : k < s.data.toList.length := by rw [size_toList]; exact hlt
      by_cases hkd : k = d
      · have h46 : ((s[k]'hlt).toNat : Int) = 46 := by rw [← byte_at s k hlt hlt', Num.dot_is _ k (by rw [HD.out]; exact hkd) hlt']; rfl
        subst hkd
        clear hlt' hk
        obtain ⟨W, hW⟩ : ∃ W, s.extract 0 k = W := ⟨_, rfl⟩
        obtain ⟨F, hF⟩ : ∃ F, s.extract (k + 1) s.size = F := ⟨_, rfl⟩
        have HP := Lib.hid (PartsAt.some HCU.out HD.out hlt hW hF)
        have hWs : W.size ≤ 60 := by rw [← hW, ByteArray.size_extract]; omega
        have hFz : F.size ≤ 60 := by rw [← hF, ByteArray.size_extract]; omega
        have hkw : IntKind.i64.wrap ((k : Int) + 1) = (k : Int) + 1 := IntWalk.i64_in _ (by omega)
        have hk1 : (k : Int) + 1 ≤ s.size := by omega
        have hk2 : (k : Int) ≤ s.size := by omega
        go_wp2_with fail
        go_region
        clear hkw hk1 hk2 h46 hW hF hlti hlt hdl
        obtain ⟨U, hU⟩ : ∃ U, U = V.drew := ⟨_, rfl⟩
        have HSt2 := Lib.hid (show StL w U [(w.heap.size, ⟨#[]⟩, ⟨#[]⟩)] by rw [hU]; exact HSt.out.drew)
        rw [← hU]
        clear hU HSt
        have HSt := HSt2
        clear HSt2
        have hP := HSt.out.box.1
        have hB := HSt.out.below
        cases hdf : digsB F.data.toList with
        | false =>
          go_wp2_with fail
          refine (kDigits F _ (by omega)).mono ?_
          rintro _ _ ⟨rfl, rfl⟩
          rw [hdf]
          have HE := Lib.hid (show frE s = fraE ⟨#[]⟩ ⟨#[]⟩ 3 from frE_bad (by rw [HP.out.isd, hdf]; cases Num.goodW W.data.toList <;> rfl))
          clear HP 
          obtain ⟨c4, c5, c6, c7⟩ := hP.cells
          go_wp2_with fail
          obtain ⟨k0, k1, _, _⟩ := (hP.put ⟨#[]⟩ ⟨#[]⟩).cells
          exact bodyPost_ret (v := fraE ⟨#[]⟩ ⟨#[]⟩ 3) (by simp [results, Tryz.results92, go_sem, k0, k1]) rfl ⟨by rw [HE.out], below_put hB (Nat.le_refl _) _ _⟩
        | true =>
          have HDF := Lib.hid hdf
          go_wp2_with fail
          refine (kDigits F _ (by omega)).mono ?_
          rintro _ _ ⟨rfl, rfl⟩
          rw [hdf]
          clear hdf
          cases hdw : digsB W.data.toList with
          | false =>
            go_wp2_with fail
            refine (kDigits W _ (by omega)).mono ?_
            rintro _ _ ⟨rfl, rfl⟩
            rw [hdw]
            have HE := Lib.hid (show frE s = fraE ⟨#[]⟩ ⟨#[]⟩ 3 from frE_bad (by rw [HP.out.isd, goodW_no hdw]; rfl))
            clear HP hdw
            obtain ⟨c4, c5, c6, c7⟩ := hP.cells
            go_wp2_with fail
            obtain ⟨k0, k1, _, _⟩ := (hP.put ⟨#[]⟩ ⟨#[]⟩).cells
            exact bodyPost_ret (v := fraE ⟨#[]⟩ ⟨#[]⟩ 3) (by simp [results, Tryz.results92, go_sem, k0, k1]) rfl ⟨by rw [HE.out], below_put hB (Nat.le_refl _) _ _⟩
          | true =>
            have HDW := Lib.hid hdw
            by_cases hw1 : 1 < W.size
            · have hw0 : 0 < W.size := by omega
              by_cases h48 : ((W[0]'hw0).toNat : Int) = 48
              · have HZ := Lib.hid (show isDecS s = false by rw [HP.out.isd, goodW_zero hw1 h48]; rfl)
                have hw1i : (1 : Int) < W.size := by omega
                clear hdw
                go_wp2_with fail
                refine (kDigits W _ (by omega)).mono ?_
                rintro _ _ ⟨rfl, rfl⟩
                rw [HDW.out]
                have HE := Lib.hid (show frE s = fraE ⟨#[]⟩ ⟨#[]⟩ 3 from frE_bad (by exact HZ.out))
                clear HP HDW
                obtain ⟨c4, c5, c6, c7⟩ := hP.cells
                go_wp2_with fail
                obtain ⟨k0, k1, _, _⟩ := (hP.put ⟨#[]⟩ ⟨#[]⟩).cells
                exact bodyPost_ret (v := fraE ⟨#[]⟩ ⟨#[]⟩ 3) (by simp [results, Tryz.results92, go_sem, k0, k1]) rfl ⟨by rw [HE.out], below_put hB (Nat.le_refl _) _ _⟩
              · have hgd : Num.goodW W.data.toList = true := goodW_yes hdw (.inr ⟨hw1, h48⟩)
                have hw1i : (1 : Int) < W.size := by omega
                have h48b : (((W[0]'hw0).toNat : Int) == 48) = false := by simpa using h48
                clear hdw
                have HGW := Lib.hid (hgd)
                obtain ⟨M, hM⟩ : ∃ M, Num.num (W.data.toList ++ F.data.toList) = M := ⟨_, rfl⟩
                have hda := digits_all (W := W) (F := F) HDW.out (.inr HDF.out)
                have hvj : vS (W ++ F) = (M : Int) := by unfold vS; rw [Num.val_digits hda, ByteArray.data_append, Array.toList_append, hM]
                have hmc : Cap 120 (M : Int) := by rw [← hvj]; exact Cap.of (s := W ++ F) (by rw [ByteArray.size_append]; omega) rfl
                obtain ⟨m, hm⟩ : ∃ m, cS (M : Int) = m := ⟨_, rfl⟩
                have hms : m.size ≤ 122 := by rw [← hm]; have := cS_size hmc; omega
                have HC := Lib.hid (show ∀ Z, Calls Tryz.prog 81 #[.string (W ++ F)] Z fun e w' => e = .returned (.string m) ∧ Z = w' from fun Z => by rw [← hm, ← hvj]; exact rCanonical_any _ Z (by rw [ByteArray.size_append]; omega))
                have hbj : ¬ 9223372036854775807 < W.size + F.size := by omega
                have hbs : ¬ 9223372036854775807 < 0 + m.size := by omega
                have hme : m.toList.isEmpty = decide ((M : Int) = 0) := by rw [← hm]; exact eq_nil _
                clear hme
                have hisd : isDecS s = true := by rw [HP.out.isd, HGW.out, hM]; rw [HDF.out]; rfl
                have hun : unitsD s = (M : Int) := by rw [HP.out.un, hM]; rfl
                have hpl := HP.out.pl
                have hFs : F.size ≤ 60 := by omega
                obtain ⟨x, hx⟩ : ∃ x, low (unitsD s, (10 : Int) ^ placesD s) = x := ⟨_, rfl⟩
                have HE := Lib.hid (show frE s = fraE (cS x.1) (cD x.2) 0 by rw [frE_ok hisd, hx])
                have HN := Lib.hid (show Ret 127 #[.string ((⟨#[]⟩ : ByteArray) ++ m), .string (cS ((10 : Int) ^ F.size))] (fraE (cS x.1) (cD x.2) 0) from fun Z hZ => by
                  have h := qNew_any (n := (⟨#[]⟩ : ByteArray) ++ m) (d := cS ((10 : Int) ^ F.size)) (x := unitsD s) (y := (10 : Int) ^ F.size) Z hZ (by rw [ByteArray.size_append]; show 0 + m.size ≤ 850; omega) (by have := tens_size F.size; omega) (by rw [hun, ← hm, nil_app]; exact vS_cS _) (vS_cS _) (by have := Num.pow10 F.size; omega)
                  rw [redS_pow, ← hpl, hx] at h
                  rw [hpl] at h
                  exact h)
                clear hisd hun hx HP HGW hM hda hvj hmc hm hms hpl
                have HFS := Lib.hid hFs
                clear hFs
                have hS : StL w U [(w.heap.size, ⟨#[]⟩, ⟨#[]⟩)] := HSt.out
                go_wp2_with fail
                refine (kDigits W _ (by omega)).mono ?_
                rintro _ _ ⟨rfl, rfl⟩
                rw [HDW.out]
                go_wp2_with fail
                refine (HC.out _).mono ?_
                rintro _ _ ⟨rfl, rfl⟩
                go_wp2_with fail
                refine (kPower F.size _ (by have := HFS.out; omega)).mono ?_
                rintro _ _ ⟨rfl, rfl⟩
                go_wp2_with fail
                refine (Ret.call HN.out _ hS.g).mono ?_
                rintro _ w1 ⟨rfl, hB1⟩
                replace hS := hS.next hB1
                clear hB1 hP
                go_upto_region 20 with fail
                obtain ⟨b3, hb3⟩ : ∃ b, b = w1.heap.size := ⟨_, rfl⟩
                obtain ⟨V3, hV3⟩ : ∃ V, V = w1.alloc (.cells #[.string (cS x.1), .string (cD x.2)] 59) := ⟨_, rfl⟩
                have hT : StL w V3 [(b3, cS x.1, cD x.2), (w.heap.size, ⟨#[]⟩, ⟨#[]⟩)] := by rw [hV3, hb3]; exact hS.alloc _ _
                rw [← hb3, ← hV3]
                clear hV3 hb3 hS
                have hT2 := StL.swap hT
                obtain ⟨p0, p1, _⟩ := hT.box
                obtain ⟨x0, y0, _, _⟩ := p0.cells
                obtain ⟨x1, y1, z1, t1⟩ := p1.cells
                go_wp2_with fail
                have hT3 := StL.fill hG hT2 (cS x.1) (cD x.2)
                obtain ⟨k0, k1, _, _⟩ := hT3.box.1.cells
                exact bodyPost_ret (v := fraE (cS x.1) (cD x.2) 0) (by simp [results, Tryz.results92, go_sem, k0, k1]) rfl ⟨by rw [HE.out], hT3.below⟩
            · have hgd : Num.goodW W.data.toList = true := goodW_yes hdw (.inl hw1)
              have hw1i : ¬ (1 : Int) < W.size := by omega
              clear hdw
              have HGW := Lib.hid (hgd)
              obtain ⟨M, hM⟩ : ∃ M, Num.num (W.data.toList ++ F.data.toList) = M := ⟨_, rfl⟩
              have hda := digits_all (W := W) (F := F) HDW.out (.inr HDF.out)
              have hvj : vS (W ++ F) = (M : Int) := by unfold vS; rw [Num.val_digits hda, ByteArray.data_append, Array.toList_append, hM]
              have hmc : Cap 120 (M : Int) := by rw [← hvj]; exact Cap.of (s := W ++ F) (by rw [ByteArray.size_append]; omega) rfl
              obtain ⟨m, hm⟩ : ∃ m, cS (M : Int) = m := ⟨_, rfl⟩
              have hms : m.size ≤ 122 := by rw [← hm]; have := cS_size hmc; omega
              have HC := Lib.hid (show ∀ Z, Calls Tryz.prog 81 #[.string (W ++ F)] Z fun e w' => e = .returned (.string m) ∧ Z = w' from fun Z => by rw [← hm, ← hvj]; exact rCanonical_any _ Z (by rw [ByteArray.size_append]; omega))
              have hbj : ¬ 9223372036854775807 < W.size + F.size := by omega
              have hbs : ¬ 9223372036854775807 < 0 + m.size := by omega
              have hme : m.toList.isEmpty = decide ((M : Int) = 0) := by rw [← hm]; exact eq_nil _
              clear hme
              have hisd : isDecS s = true := by rw [HP.out.isd, HGW.out, hM]; rw [HDF.out]; rfl
              have hun : unitsD s = (M : Int) := by rw [HP.out.un, hM]; rfl
              have hpl := HP.out.pl
              have hFs : F.size ≤ 60 := by omega
              obtain ⟨x, hx⟩ : ∃ x, low (unitsD s, (10 : Int) ^ placesD s) = x := ⟨_, rfl⟩
              have HE := Lib.hid (show frE s = fraE (cS x.1) (cD x.2) 0 by rw [frE_ok hisd, hx])
              have HN := Lib.hid (show Ret 127 #[.string ((⟨#[]⟩ : ByteArray) ++ m), .string (cS ((10 : Int) ^ F.size))] (fraE (cS x.1) (cD x.2) 0) from fun Z hZ => by
                have h := qNew_any (n := (⟨#[]⟩ : ByteArray) ++ m) (d := cS ((10 : Int) ^ F.size)) (x := unitsD s) (y := (10 : Int) ^ F.size) Z hZ (by rw [ByteArray.size_append]; show 0 + m.size ≤ 850; omega) (by have := tens_size F.size; omega) (by rw [hun, ← hm, nil_app]; exact vS_cS _) (vS_cS _) (by have := Num.pow10 F.size; omega)
                rw [redS_pow, ← hpl, hx] at h
                rw [hpl] at h
                exact h)
              clear hisd hun hx HP HGW hM hda hvj hmc hm hms hpl
              have HFS := Lib.hid hFs
              clear hFs
              have hS : StL w U [(w.heap.size, ⟨#[]⟩, ⟨#[]⟩)] := HSt.out
              go_wp2_with fail
              refine (kDigits W _ (by omega)).mono ?_
              rintro _ _ ⟨rfl, rfl⟩
              rw [HDW.out]
              go_wp2_with fail
              refine (HC.out _).mono ?_
              rintro _ _ ⟨rfl, rfl⟩
              go_wp2_with fail
              refine (kPower F.size _ (by have := HFS.out; omega)).mono ?_
              rintro _ _ ⟨rfl, rfl⟩
              go_wp2_with fail
              refine (Ret.call HN.out _ hS.g).mono ?_
              rintro _ w1 ⟨rfl, hB1⟩
              replace hS := hS.next hB1
              clear hB1 hP
              go_upto_region 20 with fail
              obtain ⟨b3, hb3⟩ : ∃ b, b = w1.heap.size := ⟨_, rfl⟩
              obtain ⟨V3, hV3⟩ : ∃ V, V = w1.alloc (.cells #[.string (cS x.1), .string (cD x.2)] 59) := ⟨_, rfl⟩
              have hT : StL w V3 [(b3, cS x.1, cD x.2), (w.heap.size, ⟨#[]⟩, ⟨#[]⟩)] := by rw [hV3, hb3]; exact hS.alloc _ _
              rw [← hb3, ← hV3]
              clear hV3 hb3 hS
              have hT2 := StL.swap hT
              obtain ⟨p0, p1, _⟩ := hT.box
              obtain ⟨x0, y0, _, _⟩ := p0.cells
              obtain ⟨x1, y1, z1, t1⟩ := p1.cells
              go_wp2_with fail
              have hT3 := StL.fill hG hT2 (cS x.1) (cD x.2)
              obtain ⟨k0, k1, _, _⟩ := hT3.box.1.cells
              exact bodyPost_ret (v := fraE (cS x.1) (cD x.2) 0) (by simp [results, Tryz.results92, go_sem, k0, k1]) rfl ⟨by rw [HE.out], hT3.below⟩
      · have h46 : (((s[k]'hlt).toNat : Int) == 46) = false := by
          have := Num.dot_ne s.data.toList k (by rw [HD.out]; omega) hlt'
          rw [byte_at s k hlt hlt'] at this
          rw [beq_eq_false_iff_ne]
          intro e
          exact this (UInt8.toNat_inj.1 (by show _ = 46; omega))
        clear hlt'
        go_wp2_with fail
        go_roundw
        case rel => exact ⟨k + 1, by omega, rfl, rfl, by go_num, by first | rfl | trivial⟩
        case measure => simp [intOf]; omega
    · have hkR : d = s.size := by omega
      have HP := Lib.hid (show PartsAt s false false s E0 by rw [HE0.out]; exact PartsAt.none HCU.out (by rw [HD.out]; exact hkR))
      have hlti : ¬ (k : Int) < s.size := by omega
      have hP := HSt.out.box.1
      have hB := HSt.out.below
      have hFz : E0.size ≤ 60 := by rw [HE0.out]; decide
      cases hdw : digsB s.data.toList with
      | false =>
        go_wp2_with fail
        refine (kDigits s _ (by omega)).mono ?_
        rintro _ _ ⟨rfl, rfl⟩
        rw [hdw]
        have HE := Lib.hid (show frE s = fraE ⟨#[]⟩ ⟨#[]⟩ 3 from frE_bad (by rw [HP.out.isd, goodW_no hdw]; rfl))
        clear HP hdw
        obtain ⟨c4, c5, c6, c7⟩ := hP.cells
        go_wp2_with fail
        obtain ⟨k0, k1, _, _⟩ := (hP.put ⟨#[]⟩ ⟨#[]⟩).cells
        exact bodyPost_ret (v := fraE ⟨#[]⟩ ⟨#[]⟩ 3) (by simp [results, Tryz.results92, go_sem, k0, k1]) rfl ⟨by rw [HE.out], below_put hB (Nat.le_refl _) _ _⟩
      | true =>
        have HDW := Lib.hid hdw
        by_cases hw1 : 1 < s.size
        · have hw0 : 0 < s.size := by omega
          by_cases h48 : ((s[0]'hw0).toNat : Int) = 48
          · have HZ := Lib.hid (show isDecS s = false by rw [HP.out.isd, goodW_zero hw1 h48]; rfl)
            have hw1i : (1 : Int) < s.size := by omega
            clear hdw
            go_wp2_with fail
            refine (kDigits s _ (by omega)).mono ?_
            rintro _ _ ⟨rfl, rfl⟩
            rw [HDW.out]
            have HE := Lib.hid (show frE s = fraE ⟨#[]⟩ ⟨#[]⟩ 3 from frE_bad (by exact HZ.out))
            clear HP HDW
            obtain ⟨c4, c5, c6, c7⟩ := hP.cells
            go_wp2_with fail
            obtain ⟨k0, k1, _, _⟩ := (hP.put ⟨#[]⟩ ⟨#[]⟩).cells
            exact bodyPost_ret (v := fraE ⟨#[]⟩ ⟨#[]⟩ 3) (by simp [results, Tryz.results92, go_sem, k0, k1]) rfl ⟨by rw [HE.out], below_put hB (Nat.le_refl _) _ _⟩
          · have hgd : Num.goodW s.data.toList = true := goodW_yes hdw (.inr ⟨hw1, h48⟩)
            have hw1i : (1 : Int) < s.size := by omega
            have h48b : (((s[0]'hw0).toNat : Int) == 48) = false := by simpa using h48
            clear hdw
            have HGW := Lib.hid (hgd)
            obtain ⟨M, hM⟩ : ∃ M, Num.num (s.data.toList ++ E0.data.toList) = M := ⟨_, rfl⟩
            have hda := digits_all (W := s) (F := E0) HDW.out (.inl HE0.out)
            have hvj : vS (s ++ E0) = (M : Int) := by unfold vS; rw [Num.val_digits hda, ByteArray.data_append, Array.toList_append, hM]
            have hmc : Cap 120 (M : Int) := by rw [← hvj]; exact Cap.of (s := s ++ E0) (by rw [ByteArray.size_append]; omega) rfl
            obtain ⟨m, hm⟩ : ∃ m, cS (M : Int) = m := ⟨_, rfl⟩
            have hms : m.size ≤ 122 := by rw [← hm]; have := cS_size hmc; omega
            have HC := Lib.hid (show ∀ Z, Calls Tryz.prog 81 #[.string (s ++ E0)] Z fun e w' => e = .returned (.string m) ∧ Z = w' from fun Z => by rw [← hm, ← hvj]; exact rCanonical_any _ Z (by rw [ByteArray.size_append]; omega))
            have hbj : ¬ 9223372036854775807 < s.size + E0.size := by omega
            have hbs : ¬ 9223372036854775807 < 0 + m.size := by omega
            have hme : m.toList.isEmpty = decide ((M : Int) = 0) := by rw [← hm]; exact eq_nil _
            clear hme
            have hisd : isDecS s = true := by rw [HP.out.isd, HGW.out, hM]; rfl
            have hun : unitsD s = (M : Int) := by rw [HP.out.un, hM]; rfl
            have hpl := HP.out.pl
            have hFs : E0.size ≤ 60 := by omega
            obtain ⟨x, hx⟩ : ∃ x, low (unitsD s, (10 : Int) ^ placesD s) = x := ⟨_, rfl⟩
            have HE := Lib.hid (show frE s = fraE (cS x.1) (cD x.2) 0 by rw [frE_ok hisd, hx])
            have HN := Lib.hid (show Ret 127 #[.string ((⟨#[]⟩ : ByteArray) ++ m), .string (cS ((10 : Int) ^ E0.size))] (fraE (cS x.1) (cD x.2) 0) from fun Z hZ => by
              have h := qNew_any (n := (⟨#[]⟩ : ByteArray) ++ m) (d := cS ((10 : Int) ^ E0.size)) (x := unitsD s) (y := (10 : Int) ^ E0.size) Z hZ (by rw [ByteArray.size_append]; show 0 + m.size ≤ 850; omega) (by have := tens_size E0.size; omega) (by rw [hun, ← hm, nil_app]; exact vS_cS _) (vS_cS _) (by have := Num.pow10 E0.size; omega)
              rw [redS_pow, ← hpl, hx] at h
              rw [hpl] at h
              exact h)
            clear hisd hun hx HP HGW hM hda hvj hmc hm hms hpl
            have HFS := Lib.hid hFs
            clear hFs
            have hS : StL w V [(w.heap.size, ⟨#[]⟩, ⟨#[]⟩)] := HSt.out
            go_wp2_with fail
            refine (kDigits s _ (by omega)).mono ?_
            rintro _ _ ⟨rfl, rfl⟩
            rw [HDW.out]
            go_wp2_with fail
            refine (HC.out _).mono ?_
            rintro _ _ ⟨rfl, rfl⟩
            go_wp2_with fail
            refine (kPower E0.size _ (by have := HFS.out; omega)).mono ?_
            rintro _ _ ⟨rfl, rfl⟩
            go_wp2_with fail
            refine (Ret.call HN.out _ hS.g).mono ?_
            rintro _ w1 ⟨rfl, hB1⟩
            replace hS := hS.next hB1
            clear hB1 hP
            go_upto_region 20 with fail
            obtain ⟨b3, hb3⟩ : ∃ b, b = w1.heap.size := ⟨_, rfl⟩
            obtain ⟨V3, hV3⟩ : ∃ V, V = w1.alloc (.cells #[.string (cS x.1), .string (cD x.2)] 59) := ⟨_, rfl⟩
            have hT : StL w V3 [(b3, cS x.1, cD x.2), (w.heap.size, ⟨#[]⟩, ⟨#[]⟩)] := by rw [hV3, hb3]; exact hS.alloc _ _
            rw [← hb3, ← hV3]
            clear hV3 hb3 hS
            have hT2 := StL.swap hT
            obtain ⟨p0, p1, _⟩ := hT.box
            obtain ⟨x0, y0, _, _⟩ := p0.cells
            obtain ⟨x1, y1, z1, t1⟩ := p1.cells
            go_wp2_with fail
            have hT3 := StL.fill hG hT2 (cS x.1) (cD x.2)
            obtain ⟨k0, k1, _, _⟩ := hT3.box.1.cells
            exact bodyPost_ret (v := fraE (cS x.1) (cD x.2) 0) (by simp [results, Tryz.results92, go_sem, k0, k1]) rfl ⟨by rw [HE.out], hT3.below⟩
        · have hgd : Num.goodW s.data.toList = true := goodW_yes hdw (.inl hw1)
          have hw1i : ¬ (1 : Int) < s.size := by omega
          clear hdw
          have HGW := Lib.hid (hgd)
          obtain ⟨M, hM⟩ : ∃ M, Num.num (s.data.toList ++ E0.data.toList) = M := ⟨_, rfl⟩
          have hda := digits_all (W := s) (F := E0) HDW.out (.inl HE0.out)
          have hvj : vS (s ++ E0) = (M : Int) := by unfold vS; rw [Num.val_digits hda, ByteArray.data_append, Array.toList_append, hM]
          have hmc : Cap 120 (M : Int) := by rw [← hvj]; exact Cap.of (s := s ++ E0) (by rw [ByteArray.size_append]; omega) rfl
          obtain ⟨m, hm⟩ : ∃ m, cS (M : Int) = m := ⟨_, rfl⟩
          have hms : m.size ≤ 122 := by rw [← hm]; have := cS_size hmc; omega
          have HC := Lib.hid (show ∀ Z, Calls Tryz.prog 81 #[.string (s ++ E0)] Z fun e w' => e = .returned (.string m) ∧ Z = w' from fun Z => by rw [← hm, ← hvj]; exact rCanonical_any _ Z (by rw [ByteArray.size_append]; omega))
          have hbj : ¬ 9223372036854775807 < s.size + E0.size := by omega
          have hbs : ¬ 9223372036854775807 < 0 + m.size := by omega
          have hme : m.toList.isEmpty = decide ((M : Int) = 0) := by rw [← hm]; exact eq_nil _
          clear hme
          have hisd : isDecS s = true := by rw [HP.out.isd, HGW.out, hM]; rfl
          have hun : unitsD s = (M : Int) := by rw [HP.out.un, hM]; rfl
          have hpl := HP.out.pl
          have hFs : E0.size ≤ 60 := by omega
          obtain ⟨x, hx⟩ : ∃ x, low (unitsD s, (10 : Int) ^ placesD s) = x := ⟨_, rfl⟩
          have HE := Lib.hid (show frE s = fraE (cS x.1) (cD x.2) 0 by rw [frE_ok hisd, hx])
          have HN := Lib.hid (show Ret 127 #[.string ((⟨#[]⟩ : ByteArray) ++ m), .string (cS ((10 : Int) ^ E0.size))] (fraE (cS x.1) (cD x.2) 0) from fun Z hZ => by
            have h := qNew_any (n := (⟨#[]⟩ : ByteArray) ++ m) (d := cS ((10 : Int) ^ E0.size)) (x := unitsD s) (y := (10 : Int) ^ E0.size) Z hZ (by rw [ByteArray.size_append]; show 0 + m.size ≤ 850; omega) (by have := tens_size E0.size; omega) (by rw [hun, ← hm, nil_app]; exact vS_cS _) (vS_cS _) (by have := Num.pow10 E0.size; omega)
            rw [redS_pow, ← hpl, hx] at h
            rw [hpl] at h
            exact h)
          clear hisd hun hx HP HGW hM hda hvj hmc hm hms hpl
          have HFS := Lib.hid hFs
          clear hFs
          have hS : StL w V [(w.heap.size, ⟨#[]⟩, ⟨#[]⟩)] := HSt.out
          go_wp2_with fail
          refine (kDigits s _ (by omega)).mono ?_
          rintro _ _ ⟨rfl, rfl⟩
          rw [HDW.out]
          go_wp2_with fail
          refine (HC.out _).mono ?_
          rintro _ _ ⟨rfl, rfl⟩
          go_wp2_with fail
          refine (kPower E0.size _ (by have := HFS.out; omega)).mono ?_
          rintro _ _ ⟨rfl, rfl⟩
          go_wp2_with fail
          refine (Ret.call HN.out _ hS.g).mono ?_
          rintro _ w1 ⟨rfl, hB1⟩
          replace hS := hS.next hB1
          clear hB1 hP
          go_upto_region 20 with fail
          obtain ⟨b3, hb3⟩ : ∃ b, b = w1.heap.size := ⟨_, rfl⟩
          obtain ⟨V3, hV3⟩ : ∃ V, V = w1.alloc (.cells #[.string (cS x.1), .string (cD x.2)] 59) := ⟨_, rfl⟩
          have hT : StL w V3 [(b3, cS x.1, cD x.2), (w.heap.size, ⟨#[]⟩, ⟨#[]⟩)] := by rw [hV3, hb3]; exact hS.alloc _ _
          rw [← hb3, ← hV3]
          clear hV3 hb3 hS
          have hT2 := StL.swap hT
          obtain ⟨p0, p1, _⟩ := hT.box
          obtain ⟨x0, y0, _, _⟩ := p0.cells
          obtain ⟨x1, y1, z1, t1⟩ := p1.cells
          go_wp2_with fail
          have hT3 := StL.fill hG hT2 (cS x.1) (cD x.2)
          obtain ⟨k0, k1, _, _⟩ := hT3.box.1.cells
          exact bodyPost_ret (v := fraE (cS x.1) (cD x.2) 0) (by simp [results, Tryz.results92, go_sem, k0, k1]) rfl ⟨by rw [HE.out], hT3.below⟩

end Go.Proofs.YtahnkmkmoalbhaaGreatDoor

/- The reference of layer 3: Fraction, Parse. -/
namespace Go.Proofs.YtahnkmkmoalbhaaGreatDoor
open Go.RowKit Fra

set_option maxRecDepth 100000 in
set_option maxHeartbeats 2000000 in
theorem kFra_long {s : ByteArray} (hs : 65536 < s.size) : Ret 92 #[.string s] (fraE ⟨#[]⟩ ⟨#[]⟩ 4) := by
  intro w hG
  have hs1 : (65536 : Int) < s.size := by omega
  clear hs
  obtain ⟨W0, hW0⟩ : ∃ W0, W0 = w.alloc (.cells #[.string ⟨#[]⟩, .string ⟨#[]⟩] 59) := ⟨_, rfl⟩
  have hB : Below w.heap.size w W0 := by rw [hW0]; exact (Below.refl _ _).alloc (Nat.le_refl _) _
  have hP : PairAt W0 w.heap.size 59 ⟨#[]⟩ ⟨#[]⟩ := by rw [hW0]; exact PairAt.made _ _ _ _
  go_enter Tryz.func92, Tryz.ntmps92
  go_upto_region 1 with fail
  rw [← hW0]
  clear hW0
  obtain ⟨c4, c5, c6, c7⟩ := hP.cells
  go_wp2_with fail
  obtain ⟨k0, k1, _, _⟩ := (hP.put ⟨#[]⟩ ⟨#[]⟩).cells
  exact bodyPost_ret (v := fraE ⟨#[]⟩ ⟨#[]⟩ 4) (by simp [results, Tryz.results92, go_sem, k0, k1]) rfl ⟨rfl, below_put hB (Nat.le_refl _) _ _⟩
theorem kFra_any {s : ByteArray} (hs : s.size ≤ 60) : Ret 92 #[.string s] (frE s) := by
  by_cases h0 : 0 < s.size
  · have hne : s.toList.isEmpty = false := by
      have h1 : s.toList ≠ [] := by
        intro e
        have h2 : s.data.toList = [] := by rw [← Lib.toList_data]; exact e
        rw [← size_toList, h2] at h0
        simp at h0
      simpa using h1
    by_cases h45 : ((s[0]'h0).toNat : Int) = 45
    · have hb : s[0]'h0 = 45 := by apply UInt8.toNat_inj.1; show _ = 45; omega
      have hx : (s.extract 1 s.size).data.toList = s.data.toList.tail := by
        rw [ByteArray.data_extract, Array.toList_extract, List.extract_eq_take_drop, List.drop_one]
        exact List.take_of_length_le (by rw [List.length_tail, size_toList]; omega)
      exact kFra_n hs h0 hne h45 rfl (by rw [ByteArray.size_extract]; omega) (by unfold Num.cut; rw [head_at h0, hb, if_pos rfl, hx])
    · exact kFra_p hs h0 hne (by simpa using h45) (by
        unfold Num.cut
        rw [head_at h0, if_neg]
        intro e
        injection e with e
        rw [e] at h45
        exact h45 rfl)
  · have hl : s.data.toList = [] := List.eq_nil_of_length_eq_zero (by rw [size_toList]; omega)
    have hne : s.toList.isEmpty = true := by
      have h1 : s.toList = [] := by rw [Lib.toList_data]; exact hl
      rw [h1]; rfl
    exact kFra_e hs hne (by unfold Num.cut; rw [hl]; rfl)

set_option maxRecDepth 100000 in
set_option maxHeartbeats 16000000 in
theorem kParse_range (s : ByteArray) {n : Int} (hn : okP n = false) : Ret 66 #[.string s, .int .i64 n] (two ⟨#[]⟩ 2) := by
  intro w hG
  have HP := Lib.hid hn
  clear hn
  have hS : StL w w [] := StL.zero hG
  go_enter Tryz.func66, Tryz.ntmps66
  go_wp2_with fail
  refine Calls.mono (kPlaces n w) ?_
  rintro _ _ ⟨rfl, rfl⟩
  rw [HP.out]
  go_wp2_with fail
  go_ret2
  exact ⟨rfl, hS.below⟩

set_option maxRecDepth 100000 in
set_option maxHeartbeats 16000000 in
theorem kParse_err {s : ByteArray} {n c : Int} (hn : okP n = true) (hf : Ret 92 #[.string s] (fraE ⟨#[]⟩ ⟨#[]⟩ c)) (hc : c ≠ 0) : Ret 66 #[.string s, .int .i64 n] (two ⟨#[]⟩ c) := by
  intro w hG
  have HP := Lib.hid hn
  have HF := Lib.hid hf
  have hc2 : (c == 0) = false := by simpa using hc
  clear hn hf hc
  have hS : StL w w [] := StL.zero hG
  go_enter Tryz.func66, Tryz.ntmps66
  go_wp2_with fail
  refine Calls.mono (kPlaces n w) ?_
  rintro _ _ ⟨rfl, rfl⟩
  rw [HP.out]
  go_wp2_with fail
  refine Calls.mono (Ret.call HF.out _ hS.g) ?_
  rintro _ w1 ⟨rfl, hB⟩
  replace hS := hS.next hB
  clear hB
  go_upto_region 4 with fail
  obtain ⟨b2, hb2⟩ : ∃ b, b = w1.heap.size := ⟨_, rfl⟩
  obtain ⟨V2, hV2⟩ : ∃ V, V = w1.alloc (.cells #[.string ⟨#[]⟩, .string ⟨#[]⟩] 59) := ⟨_, rfl⟩
  have hT : StL w V2 [(b2, ⟨#[]⟩, ⟨#[]⟩)] := by rw [hV2, hb2]; exact hS.alloc _ _
  rw [← hb2, ← hV2]
  clear hV2 hb2 hS
  have hS := hT
  clear hT
  obtain ⟨fp0, _⟩ := hS.box
  obtain ⟨fx0, fy0, _, _⟩ := fp0.cells
  go_wp2_with fail
  go_ret2
  exact ⟨rfl, hS.below⟩

set_option maxRecDepth 100000 in
set_option maxHeartbeats 16000000 in
theorem kParse_ok {s : ByteArray} {x z : Int × Int} {p : Nat} (hp : p ≤ 12) (hf : Ret 92 #[.string s] (fraE (cS x.1) (cD x.2) 0)) (hcx : CapP 100 x) (hx : 0 < x.2) (hz : mulP x ((10 : Int) ^ p, 1) = z) (h1 : z.2 = 1) : Ret 66 #[.string s, .int .i64 (p : Int)] (two (cS z.1) 0) := by
  intro w hG
  have hts := tens_size p
  have hxn := cS_size hcx.1
  have hxd := cD_size hcx.2
  have hrt : raw (cS ((10 : Int) ^ p)) ⟨#[]⟩ = ((10 : Int) ^ p, 1) := by unfold raw; rw [vS_cS, vS_nil]; rfl
  have hcz : CapP (100 + (p + 1)) z := by rw [← hz]; exact CapP.mul hcx (tens_capP p) hx Int.one_pos
  have hzp : 0 < z.2 := by rw [← hz]; exact mulP_pos (y := ((10 : Int) ^ p, 1)) hx Int.one_pos
  have hzl : Low z := by rw [← hz]; exact Low.of_mulP hx (y := ((10 : Int) ^ p, 1)) Int.one_pos
  have HP := Lib.hid (okP_true (n := (p : Int)) (by omega) (by omega))
  have HF := Lib.hid hf
  have HPW := Lib.hid (show Ret 96 #[.int .i64 (p : Int)] (.string (cS ((10 : Int) ^ p))) from Ret.of_same fun W => kPower p W (by omega))
  have HOF := Lib.hid (show Ret 95 #[.string (cS ((10 : Int) ^ p))] (.agg #[.string (cS ((10 : Int) ^ p)), .string ⟨#[]⟩]) from fun W _ => qOf_any W (by omega) (vS_cS _))
  have HMU := Lib.hid (show Ret 94 #[.agg #[.string (cS x.1), .string (cD x.2)], .agg #[.string (cS ((10 : Int) ^ p)), .string ⟨#[]⟩]] (.agg #[.string (cS z.1), .string (cD z.2)]) from fun W hW => by
    have h := qMul_any (cS x.1) (cD x.2) (cS ((10 : Int) ^ p)) ⟨#[]⟩ W hW (by omega) (by omega) (by omega) (by decide)
    rw [hrt, raw_can hx, hz] at h
    exact h)
  have HPA := Lib.hid (show Ret 93 #[.agg #[.string (cS z.1), .string (cD z.2)]] (.tuple #[.string (cS z.1), .string (cS z.2)]) from fun W hW => by
    have h := qParts_any (cS z.1) (cD z.2) W hW (by have := cS_size hcz.1; omega) (by have := cD_size hcz.2; omega)
    rw [raw_can hzp, hzl.eq] at h
    exact h)
  have HZS := Lib.hid (show (cS z.2).size ≤ 4294967296 by have := cS_size hcz.2; omega)
  obtain ⟨c, hc⟩ : ∃ c : Int, c = 0 := ⟨_, rfl⟩
  have HC := Lib.hid (show cmp3 z.2 1 = c by rw [h1, hc]; rfl)
  have hc2 : (c == 0) = true := by simpa using hc
  clear hc
  clear hts hxn hxd hrt hcz hzp hzl hp hf hcx hx hz h1
  have hS : StL w w [] := StL.zero hG
  go_enter Tryz.func66, Tryz.ntmps66
  go_wp2_with fail
  refine Calls.mono (kPlaces p w) ?_
  rintro _ _ ⟨rfl, rfl⟩
  rw [HP.out]
  go_wp2_with fail
  refine Calls.mono (Ret.call HF.out _ hS.g) ?_
  rintro _ w1 ⟨rfl, hB⟩
  replace hS := hS.next hB
  clear hB
  go_upto_region 4 with fail
  obtain ⟨b2, hb2⟩ : ∃ b, b = w1.heap.size := ⟨_, rfl⟩
  obtain ⟨V2, hV2⟩ : ∃ V, V = w1.alloc (.cells #[.string (cS x.1), .string (cD x.2)] 59) := ⟨_, rfl⟩
  have hT : StL w V2 [(b2, (cS x.1), (cD x.2))] := by rw [hV2, hb2]; exact hS.alloc _ _
  rw [← hb2, ← hV2]
  clear hV2 hb2 hS
  have hS := hT
  clear hT
  obtain ⟨fp0, _⟩ := hS.box
  obtain ⟨fx0, fy0, _, _⟩ := fp0.cells
  go_upto_region 6 with fail
  clear fp0 fx0 fy0
  obtain ⟨fp0, _⟩ := hS.box
  obtain ⟨fx0, fy0, _, _⟩ := fp0.cells
  try go_upto_region 6 with fail
  have HS := Lib.hid hS
  clear hS
  go_cut [8, 9] (fun s8 s9 wx => s8 = .string (cS z.1) ∧ s9 = .string (cS z.2) ∧ StL w wx [(b2, (cS x.1), (cD x.2))])
  case first =>
    go_region_held3 (fun w' => w'.cell? ⟨b2, 0, none⟩ = some (.string (cS x.1)) ∧ w'.cell? ⟨b2, 1, none⟩ = some (.string (cD x.2)))
      (go_keep)
      (first
    | (go_at_call 96;
         (first
           | (with_reducible refine Calls.mono (Ret.call HPW.out _ (by first | exact HS.out.g | exact HS.out.drew.g | exact (HS.out.drewN _).g)) ?_));
         (rintro e WX ⟨rfl, hB1⟩);
         (have HS2 : StL w WX [(b2, (cS x.1), (cD x.2))] := (by first | exact HS.out.next hB1 | exact HS.out.next1 hB1 | exact HS.out.nextD hB1));
         (replace HS := Lib.hid HS2);
         (clear hB1 HS2);
         (obtain ⟨fp0, _⟩ := HS.out.box);
         (obtain ⟨fx0, fy0, _, _⟩ := fp0.cells))
    | (go_at_call 95;
         (first
           | (with_reducible refine Calls.mono (Ret.call HOF.out _ (by first | exact HS.out.g | exact HS.out.drew.g | exact (HS.out.drewN _).g)) ?_));
         (rintro e WX ⟨rfl, hB1⟩);
         (have HS2 : StL w WX [(b2, (cS x.1), (cD x.2))] := (by first | exact HS.out.next hB1 | exact HS.out.next1 hB1 | exact HS.out.nextD hB1));
         (replace HS := Lib.hid HS2);
         (clear hB1 HS2);
         (obtain ⟨fp0, _⟩ := HS.out.box);
         (obtain ⟨fx0, fy0, _, _⟩ := fp0.cells))
    | (go_at_call 94;
         (first
           | (with_reducible refine Calls.mono (Ret.call HMU.out _ (by first | exact HS.out.g | exact HS.out.drew.g | exact (HS.out.drewN _).g)) ?_));
         (rintro e WX ⟨rfl, hB1⟩);
         (have HS2 : StL w WX [(b2, (cS x.1), (cD x.2))] := (by first | exact HS.out.next hB1 | exact HS.out.next1 hB1 | exact HS.out.nextD hB1));
         (replace HS := Lib.hid HS2);
         (clear hB1 HS2);
         (obtain ⟨fp0, _⟩ := HS.out.box);
         (obtain ⟨fx0, fy0, _, _⟩ := fp0.cells))
    | (go_at_call 93;
         (first
           | (with_reducible refine Calls.mono (Ret.call HPA.out _ (by first | exact HS.out.g | exact HS.out.drew.g | exact (HS.out.drewN _).g)) ?_));
         (rintro e WX ⟨rfl, hB1⟩);
         (have HS2 : StL w WX [(b2, (cS x.1), (cD x.2))] := (by first | exact HS.out.next hB1 | exact HS.out.next1 hB1 | exact HS.out.nextD hB1));
         (replace HS := Lib.hid HS2);
         (clear hB1 HS2);
         (obtain ⟨fp0, _⟩ := HS.out.box);
         (obtain ⟨fx0, fy0, _, _⟩ := fp0.cells)))
    all_goals go_wp2_with fail
    all_goals go_meet
    all_goals exact ⟨rfl, rfl, (by first | exact HS.out | exact HS.out.drew | exact HS.out.drewN _)⟩
  clear HS
  clear fp0 fx0 fy0
  obtain ⟨rfl, rfl, hS⟩ := hcut
  obtain ⟨w3, hw⟩ : ∃ W, W = wc := ⟨_, rfl⟩
  rw [← hw] at hS
  rw [← hw]
  clear hw
  obtain ⟨fp0, _⟩ := hS.box
  obtain ⟨fx0, fy0, _, _⟩ := fp0.cells
  go_wp2_with fail
  clear fp0 fx0 fy0
  refine Calls.mono (qCmp (z := c) w3 HZS.out (by decide) (vS_cS _) vS_one HC.out) ?_
  rintro _ _ ⟨rfl, rfl⟩
  obtain ⟨fp0, _⟩ := hS.box
  obtain ⟨fx0, fy0, _, _⟩ := fp0.cells
  go_wp2_with fail
  go_ret2
  exact ⟨rfl, hS.below⟩

set_option maxRecDepth 100000 in
set_option maxHeartbeats 16000000 in
theorem kParse_no {s : ByteArray} {x z : Int × Int} {p : Nat} (hp : p ≤ 12) (hf : Ret 92 #[.string s] (fraE (cS x.1) (cD x.2) 0)) (hcx : CapP 100 x) (hx : 0 < x.2) (hz : mulP x ((10 : Int) ^ p, 1) = z) (h1 : z.2 ≠ 1) : Ret 66 #[.string s, .int .i64 (p : Int)] (two ⟨#[]⟩ 22) := by
  intro w hG
  have hts := tens_size p
  have hxn := cS_size hcx.1
  have hxd := cD_size hcx.2
  have hrt : raw (cS ((10 : Int) ^ p)) ⟨#[]⟩ = ((10 : Int) ^ p, 1) := by unfold raw; rw [vS_cS, vS_nil]; rfl
  have hcz : CapP (100 + (p + 1)) z := by rw [← hz]; exact CapP.mul hcx (tens_capP p) hx Int.one_pos
  have hzp : 0 < z.2 := by rw [← hz]; exact mulP_pos (y := ((10 : Int) ^ p, 1)) hx Int.one_pos
  have hzl : Low z := by rw [← hz]; exact Low.of_mulP hx (y := ((10 : Int) ^ p, 1)) Int.one_pos
  have HP := Lib.hid (okP_true (n := (p : Int)) (by omega) (by omega))
  have HF := Lib.hid hf
  have HPW := Lib.hid (show Ret 96 #[.int .i64 (p : Int)] (.string (cS ((10 : Int) ^ p))) from Ret.of_same fun W => kPower p W (by omega))
  have HOF := Lib.hid (show Ret 95 #[.string (cS ((10 : Int) ^ p))] (.agg #[.string (cS ((10 : Int) ^ p)), .string ⟨#[]⟩]) from fun W _ => qOf_any W (by omega) (vS_cS _))
  have HMU := Lib.hid (show Ret 94 #[.agg #[.string (cS x.1), .string (cD x.2)], .agg #[.string (cS ((10 : Int) ^ p)), .string ⟨#[]⟩]] (.agg #[.string (cS z.1), .string (cD z.2)]) from fun W hW => by
    have h := qMul_any (cS x.1) (cD x.2) (cS ((10 : Int) ^ p)) ⟨#[]⟩ W hW (by omega) (by omega) (by omega) (by decide)
    rw [hrt, raw_can hx, hz] at h
    exact h)
  have HPA := Lib.hid (show Ret 93 #[.agg #[.string (cS z.1), .string (cD z.2)]] (.tuple #[.string (cS z.1), .string (cS z.2)]) from fun W hW => by
    have h := qParts_any (cS z.1) (cD z.2) W hW (by have := cS_size hcz.1; omega) (by have := cD_size hcz.2; omega)
    rw [raw_can hzp, hzl.eq] at h
    exact h)
  have HZS := Lib.hid (show (cS z.2).size ≤ 4294967296 by have := cS_size hcz.2; omega)
  obtain ⟨c, hc⟩ : ∃ c, cmp3 z.2 1 = c := ⟨_, rfl⟩
  have HC := Lib.hid hc
  have hc2 : (c == 0) = false := by rw [beq_eq_false_iff_ne]; intro e; rw [e] at hc; exact h1 ((cmp3_zero _ _).1 hc)
  clear hc
  clear hts hxn hxd hrt hcz hzp hzl hp hf hcx hx hz h1
  have hS : StL w w [] := StL.zero hG
  go_enter Tryz.func66, Tryz.ntmps66
  go_wp2_with fail
  refine Calls.mono (kPlaces p w) ?_
  rintro _ _ ⟨rfl, rfl⟩
  rw [HP.out]
  go_wp2_with fail
  refine Calls.mono (Ret.call HF.out _ hS.g) ?_
  rintro _ w1 ⟨rfl, hB⟩
  replace hS := hS.next hB
  clear hB
  go_upto_region 4 with fail
  obtain ⟨b2, hb2⟩ : ∃ b, b = w1.heap.size := ⟨_, rfl⟩
  obtain ⟨V2, hV2⟩ : ∃ V, V = w1.alloc (.cells #[.string (cS x.1), .string (cD x.2)] 59) := ⟨_, rfl⟩
  have hT : StL w V2 [(b2, (cS x.1), (cD x.2))] := by rw [hV2, hb2]; exact hS.alloc _ _
  rw [← hb2, ← hV2]
  clear hV2 hb2 hS
  have hS := hT
  clear hT
  obtain ⟨fp0, _⟩ := hS.box
  obtain ⟨fx0, fy0, _, _⟩ := fp0.cells
  go_upto_region 6 with fail
  clear fp0 fx0 fy0
  obtain ⟨fp0, _⟩ := hS.box
  obtain ⟨fx0, fy0, _, _⟩ := fp0.cells
  try go_upto_region 6 with fail
  have HS := Lib.hid hS
  clear hS
  go_cut [8, 9] (fun s8 s9 wx => s8 = .string (cS z.1) ∧ s9 = .string (cS z.2) ∧ StL w wx [(b2, (cS x.1), (cD x.2))])
  case first =>
    go_region_held3 (fun w' => w'.cell? ⟨b2, 0, none⟩ = some (.string (cS x.1)) ∧ w'.cell? ⟨b2, 1, none⟩ = some (.string (cD x.2)))
      (go_keep)
      (first
    | (go_at_call 96;
         (first
           | (with_reducible refine Calls.mono (Ret.call HPW.out _ (by first | exact HS.out.g | exact HS.out.drew.g | exact (HS.out.drewN _).g)) ?_));
         (rintro e WX ⟨rfl, hB1⟩);
         (have HS2 : StL w WX [(b2, (cS x.1), (cD x.2))] := (by first | exact HS.out.next hB1 | exact HS.out.next1 hB1 | exact HS.out.nextD hB1));
         (replace HS := Lib.hid HS2);
         (clear hB1 HS2);
         (obtain ⟨fp0, _⟩ := HS.out.box);
         (obtain ⟨fx0, fy0, _, _⟩ := fp0.cells))
    | (go_at_call 95;
         (first
           | (with_reducible refine Calls.mono (Ret.call HOF.out _ (by first | exact HS.out.g | exact HS.out.drew.g | exact (HS.out.drewN _).g)) ?_));
         (rintro e WX ⟨rfl, hB1⟩);
         (have HS2 : StL w WX [(b2, (cS x.1), (cD x.2))] := (by first | exact HS.out.next hB1 | exact HS.out.next1 hB1 | exact HS.out.nextD hB1));
         (replace HS := Lib.hid HS2);
         (clear hB1 HS2);
         (obtain ⟨fp0, _⟩ := HS.out.box);
         (obtain ⟨fx0, fy0, _, _⟩ := fp0.cells))
    | (go_at_call 94;
         (first
           | (with_reducible refine Calls.mono (Ret.call HMU.out _ (by first | exact HS.out.g | exact HS.out.drew.g | exact (HS.out.drewN _).g)) ?_));
         (rintro e WX ⟨rfl, hB1⟩);
         (have HS2 : StL w WX [(b2, (cS x.1), (cD x.2))] := (by first | exact HS.out.next hB1 | exact HS.out.next1 hB1 | exact HS.out.nextD hB1));
         (replace HS := Lib.hid HS2);
         (clear hB1 HS2);
         (obtain ⟨fp0, _⟩ := HS.out.box);
         (obtain ⟨fx0, fy0, _, _⟩ := fp0.cells))
    | (go_at_call 93;
         (first
           | (with_reducible refine Calls.mono (Ret.call HPA.out _ (by first | exact HS.out.g | exact HS.out.drew.g | exact (HS.out.drewN _).g)) ?_));
         (rintro e WX ⟨rfl, hB1⟩);
         (have HS2 : StL w WX [(b2, (cS x.1), (cD x.2))] := (by first | exact HS.out.next hB1 | exact HS.out.next1 hB1 | exact HS.out.nextD hB1));
         (replace HS := Lib.hid HS2);
         (clear hB1 HS2);
         (obtain ⟨fp0, _⟩ := HS.out.box);
         (obtain ⟨fx0, fy0, _, _⟩ := fp0.cells)))
    all_goals go_wp2_with fail
    all_goals go_meet
    all_goals exact ⟨rfl, rfl, (by first | exact HS.out | exact HS.out.drew | exact HS.out.drewN _)⟩
  clear HS
  clear fp0 fx0 fy0
  obtain ⟨rfl, rfl, hS⟩ := hcut
  obtain ⟨w3, hw⟩ : ∃ W, W = wc := ⟨_, rfl⟩
  rw [← hw] at hS
  rw [← hw]
  clear hw
  obtain ⟨fp0, _⟩ := hS.box
  obtain ⟨fx0, fy0, _, _⟩ := fp0.cells
  go_wp2_with fail
  clear fp0 fx0 fy0
  refine Calls.mono (qCmp (z := c) w3 HZS.out (by decide) (vS_cS _) vS_one HC.out) ?_
  rintro _ _ ⟨rfl, rfl⟩
  obtain ⟨fp0, _⟩ := hS.box
  obtain ⟨fx0, fy0, _, _⟩ := fp0.cells
  go_wp2_with fail
  go_ret2
  exact ⟨rfl, hS.below⟩

end Go.Proofs.YtahnkmkmoalbhaaGreatDoor

/- the law DecimalTexts: the walk. -/
namespace Go.Proofs.YtahnkmkmoalbhaaGreatDoor
open Go.RowKit Fra

theorem parse_same {s : ByteArray} (k : Int) (hs : s.size ≤ 60 ∨ 65536 < s.size) : ∃ t e, Ret 65 #[.string s, .int .i64 k] (two t e) ∧ Ret 66 #[.string s, .int .i64 k] (two t e) := by
  cases hp : okP k with
  | false => exact ⟨_, _, dParse_range s hp, kParse_range s hp⟩
  | true =>
    have h12 := okP_iff.1 hp
    obtain ⟨p, rfl⟩ : ∃ p : Nat, k = p := ⟨k.toNat, by omega⟩
    rcases hs with hs | hs
    · cases hg : isDecS s with
      | false =>
        have hf := kFra_any hs
        rw [frE_bad hg] at hf
        exact ⟨_, _, dParse_bad hp (by omega) hg, kParse_err hp hf (by decide)⟩
      | true =>
        have hf := kFra_any hs
        rw [frE_ok hg] at hf
        have hpl := placesD_le s
        have hx := frac_val (z := unitsD s) (p := placesD s) (k := 100) ((unitsD_cap hg).mono (by omega)) (by omega)
        by_cases h1 : (mulP (low (unitsD s, (10 : Int) ^ placesD s)) ((10 : Int) ^ p, 1)).2 = 1
        · have hz : mulP (low (unitsD s, (10 : Int) ^ placesD s)) ((10 : Int) ^ p, 1) = ((mulP (low (unitsD s, (10 : Int) ^ placesD s)) ((10 : Int) ^ p, 1)).1, 1) := Prod.ext rfl h1
          exact ⟨_, _, dParse_ok (by omega) hg (by omega) (units_is.1 hz), kParse_ok (by omega) hf hx.1 hx.2 rfl h1⟩
        · refine ⟨_, _, dParse_inexact (by omega) hg (by omega) ?_, kParse_no (by omega) hf hx.1 hx.2 rfl h1⟩
          intro h
          rw [Int.fmod_def] at h
          exact h1 (units_some.2 ⟨Int.fdiv (unitsD s * (10 : Int) ^ p) ((10 : Int) ^ placesD s), by rw [Int.mul_comm (Int.fdiv _ _)]; omega⟩)
    · exact ⟨_, _, dParse_long hp hs, kParse_err hp (kFra_long hs) (by decide)⟩
end Go.Proofs.YtahnkmkmoalbhaaGreatDoor

/- Layer 4: rows of strings and of fractions in memory: read, made whole, appended to. -/
namespace Go.Proofs.YtahnkmkmoalbhaaGreatDoor
open Go.RowKit

/-! ### Cells that are read -/
/-- the m cells c lie behind the address xa; nothing is known of the address of none -/
structure Rc (w : World) (xa : Option Addr) (m : Nat) (c : Nat → Value) : Prop where
  sl : 0 < m → ∃ b o, xa = some ⟨b, o, none⟩ ∧ b < w.heap.size ∧ ∀ i, i < m → w.cell? ⟨b, o + i, none⟩ = some (c i)
theorem Rc.nil (w : World) (xa : Option Addr) (c : Nat → Value) : Rc w xa 0 c := ⟨fun h => absurd h (by omega)⟩
theorem Rc.below {w w' : World} {xa : Option Addr} {m : Nat} {c : Nat → Value} (h : Rc w xa m c) (hb : Below w.heap.size w w') : Rc w' xa m c :=
  ⟨fun h0 => by obtain ⟨b, o, e, hl, hc⟩ := h.sl h0; exact ⟨b, o, e, Nat.lt_of_lt_of_le hl hb.size, fun i hi => (hb.cell (p := ⟨b, o + i, none⟩) hl).trans (hc i hi)⟩⟩
theorem Rc.belowAt {B : Nat} {w w' : World} {xa : Option Addr} {m : Nat} {c : Nat → Value} (h : Rc w xa m c) (hb : Below B w w') (hB : w.heap.size ≤ B) : Rc w' xa m c := h.below (hb.mono hB)
theorem Rc.drewN {w : World} {xa : Option Addr} {m : Nat} {c : Nat → Value} (h : Rc w xa m c) (n : Nat) : Rc (w.drewN n) xa m c := ⟨h.sl⟩
theorem Rc.alloc {w : World} {xa : Option Addr} {m : Nat} {c : Nat → Value} (h : Rc w xa m c) (o : Obj) : Rc (w.alloc o) xa m c := h.below ((Below.refl _ w).alloc (Nat.le_refl _) o)
theorem Rc.prefix {w : World} {xa : Option Addr} {m k : Nat} {c : Nat → Value} (h : Rc w xa m c) (hk : k ≤ m) : Rc w xa k c :=
  ⟨fun h0 => by obtain ⟨b, o, e, hl, hc⟩ := h.sl (by omega); exact ⟨b, o, e, hl, fun i hi => hc i (by omega)⟩⟩
theorem Rc.congr {w : World} {xa : Option Addr} {m : Nat} {c d : Nat → Value} (h : Rc w xa m c) (e : ∀ i, i < m → d i = c i) : Rc w xa m d :=
  ⟨fun h0 => by obtain ⟨b, o, ea, hl, hc⟩ := h.sl h0; exact ⟨b, o, ea, hl, fun i hi => by rw [hc i hi, e i hi]⟩⟩
theorem Rc.setOther {w : World} {xa : Option Addr} {m : Nat} {c : Nat → Value} (h : Rc w xa m c) {a : Addr} (hne : ∀ b o, xa = some ⟨b, o, none⟩ → b ≠ a.block) (v : Value) : Rc (w.setCell a v) xa m c :=
  ⟨fun h0 => by
    obtain ⟨b, o, e, hl, hc⟩ := h.sl h0
    exact ⟨b, o, e, by simpa [World.setCell] using hl, fun i hi => (World.cell?_of_block (w := w) (a := ⟨b, o + i, none⟩) (Below.heap_setCell w a v b (hne b o e))).trans (hc i hi)⟩⟩
theorem Rc.grown {w w' : World} {xa : Option Addr} {m : Nat} {c : Nat → Value} {row : Option Nat} (h : Rc w xa m c) (hg : w.grownBy w' row) (hne : ∀ b o, xa = some ⟨b, o, none⟩ → some b ≠ row) : Rc w' xa m c :=
  ⟨fun h0 => by obtain ⟨b, o, e, hl, hc⟩ := h.sl h0; exact ⟨b, o, e, Nat.lt_of_lt_of_le hl hg.size, fun i hi => hg.cell (hc i hi) (hne b o e)⟩⟩

/-- a slice of n strings -/
abbrev Rs (w : World) (xa : Option Addr) (n : Nat) (s : Nat → ByteArray) : Prop := Rc w xa n fun i => .string (s i)
/-- a slice of n pairs of strings -/
abbrev Rf (w : World) (xa : Option Addr) (n : Nat) (u v : Nat → ByteArray) : Prop := Rc w xa (n * 2) fun i => .string (if i % 2 = 0 then u (i / 2) else v (i / 2))
theorem Rs.congr {w : World} {xa : Option Addr} {n : Nat} {s t : Nat → ByteArray} (h : Rs w xa n s) (e : ∀ i, i < n → t i = s i) : Rs w xa n t := Rc.congr h fun i hi => by show Value.string _ = Value.string _; rw [e i hi]
theorem Rs.at {w : World} {xa : Option Addr} {n : Nat} {s : Nat → ByteArray} (h : Rs w xa n s) {i : Nat} (hi : i < n) : ∃ b o, xa = some ⟨b, o, none⟩ ∧ b < w.heap.size ∧ w.cell? ⟨b, o + i, none⟩ = some (.string (s i)) := by
  obtain ⟨b, o, e, hl, hc⟩ := h.sl (by omega); exact ⟨b, o, e, hl, hc i hi⟩
theorem Rf.at {w : World} {xa : Option Addr} {n : Nat} {u v : Nat → ByteArray} (h : Rf w xa n u v) {i : Nat} (hi : i < n) :
    ∃ b o, xa = some ⟨b, o, none⟩ ∧ b < w.heap.size ∧ w.cell? ⟨b, o + i * 2, none⟩ = some (.string (u i)) ∧ w.cell? ⟨b, o + i * 2 + 1, none⟩ = some (.string (v i)) := by
  obtain ⟨b, o, e, hl, hc⟩ := h.sl (by omega)
  have h1 := hc (i * 2) (by omega)
  have h2 := hc (i * 2 + 1) (by omega)
  rw [if_pos (by omega), show i * 2 / 2 = i by omega] at h1
  rw [if_neg (by omega), show (i * 2 + 1) / 2 = i by omega, ← Nat.add_assoc] at h2
  exact ⟨b, o, e, hl, h1, h2⟩

/-! ### Rows that a call made whole -/
/-- f, at i x -/
def upd {α : Type} (f : Nat → α) (i : Nat) (x : α) : Nat → α := fun j => if j = i then x else f j
/-- block b holds n cells c of type t -/
def RowC (w : World) (b : Nat) (t : TypeId) (n : Nat) (c : Nat → Value) : Prop := w.heap[b]? = some (.cells ((List.range n).map c).toArray t (0, 0))
theorem RowC.lt {w : World} {b : Nat} {t : TypeId} {n : Nat} {c : Nat → Value} (h : RowC w b t n c) : b < w.heap.size := (Array.getElem?_eq_some_iff.1 h).1
theorem RowC.cell {w : World} {b : Nat} {t : TypeId} {n : Nat} {c : Nat → Value} (h : RowC w b t n c) {i : Nat} (hi : i < n) : w.cell? ⟨b, i, none⟩ = some (c i) := by
  rw [cell_of_row w b i _ _ _ h]
  simp [hi]
theorem RowC.frozen {w : World} {b : Nat} {t : TypeId} {n : Nat} {c : Nat → Value} (h : RowC w b t n c) (i : Nat) : w.frozen? ⟨b, i, none⟩ = false := frozen_of_row w b i _ _ h
theorem RowC.of_block {w w' : World} {b : Nat} {t : TypeId} {n : Nat} {c : Nat → Value} (h : RowC w b t n c) (e : w'.heap[b]? = w.heap[b]?) : RowC w' b t n c := by
  unfold RowC at *; rw [e]; exact h
theorem RowC.below {B : Nat} {w w' : World} {b : Nat} {t : TypeId} {n : Nat} {c : Nat → Value} (h : RowC w b t n c) (hb : Below B w w') (hlt : b < B) : RowC w' b t n c := h.of_block (hb.block b hlt)
theorem RowC.set {w : World} {b : Nat} {t : TypeId} {n : Nat} {c : Nat → Value} (h : RowC w b t n c) (i : Nat) (v : Value) : RowC (w.setCell ⟨b, i, none⟩ v) b t n (upd c i v) := by
  have := heap_setCell_same w b i _ _ v h
  unfold RowC
  rw [this, List.setIfInBounds_toArray]
  congr 3
  apply List.ext_getElem
  · simp
  · intro k h1 h2
    simp only [List.getElem_set, List.getElem_map, List.getElem_range, upd]
    by_cases e : i = k
    · subst e; simp
    · rw [if_neg e, if_neg (fun q => e q.symm)]
theorem RowC.setOther {w : World} {b : Nat} {t : TypeId} {n : Nat} {c : Nat → Value} (h : RowC w b t n c) {a : Addr} (hne : b ≠ a.block) (v : Value) : RowC (w.setCell a v) b t n c := h.of_block (Below.heap_setCell w a v b hne)
theorem RowC.alloc {w : World} {b : Nat} {t : TypeId} {n : Nat} {c : Nat → Value} (h : RowC w b t n c) (o : Obj) : RowC (w.alloc o) b t n c := h.of_block (Below.heap_alloc w o b h.lt)
theorem RowC.drewN {w : World} {b : Nat} {t : TypeId} {n : Nat} {c : Nat → Value} (h : RowC w b t n c) (k : Nat) : RowC (w.drewN k) b t n c := h
theorem RowC.congr {w : World} {b : Nat} {t : TypeId} {n : Nat} {c d : Nat → Value} (h : RowC w b t n c) (e : ∀ i, i < n → d i = c i) : RowC w b t n d := by
  unfold RowC at *
  rw [h, List.map_congr_left (fun i hi => (e i (List.mem_range.1 hi)).symm)]
theorem RowC.rc {w : World} {b : Nat} {t : TypeId} {n : Nat} {c : Nat → Value} (h : RowC w b t n c) : Rc w (some ⟨b, 0, none⟩) n c :=
  ⟨fun _ => ⟨b, 0, rfl, h.lt, fun i hi => by rw [Nat.zero_add]; exact h.cell hi⟩⟩
theorem RowC.made (w : World) (t : TypeId) (z : Value) (n : Nat) : RowC (w.alloc (.cells (madeCells #[z] n) t)) w.heap.size t n fun _ => z := by
  unfold RowC
  rw [heap_alloc_new]
  have : madeCells #[z] n = ((List.range n).map fun _ => z).toArray := by
    apply Array.toList_inj.1; rw [toList_madeCells_one]; simp [List.map_const']
  rw [this]

/-! ### Rows that grow by append -/
/-- the slice value v owns k cells c of a type of size cells each -/
def OwnC (w : World) (base : Nat) (t : TypeId) (size : Nat) (v : Value) (n : Nat) (c : Nat → Value) : Prop := w.ownsRow base t size v n ((List.range (n * size)).map c)
theorem OwnC.nil (w : World) (base : Nat) (t : TypeId) (size : Nat) (c : Nat → Value) : OwnC w base t size (.slice none 0 0) 0 c := by
  unfold OwnC; rw [Nat.zero_mul]; exact World.ownsRow_nil w base t size
theorem OwnC.kept {w w' : World} {base : Nat} {t : TypeId} {size : Nat} {v : Value} {n : Nat} {c : Nat → Value} (h : OwnC w base t size v n c) (hb : Below w.heap.size w w') : OwnC w' base t size v n c := by
  refine World.ownsRow.kept h (grown_of_below hb none) ?_
  cases hv : v.ownBlock with
  | none => exact .inl rfl
  | some b => exact .inr (by simp)
theorem OwnC.alloc {w : World} {base : Nat} {t : TypeId} {size : Nat} {v : Value} {n : Nat} {c : Nat → Value} (h : OwnC w base t size v n c) (o : Obj) : OwnC (w.alloc o) base t size v n c := World.ownsRow.alloc h o
theorem OwnC.congr {w : World} {base : Nat} {t : TypeId} {size : Nat} {v : Value} {n : Nat} {c d : Nat → Value} (h : OwnC w base t size v n c) (e : ∀ i, i < n * size → d i = c i) : OwnC w base t size v n d := by
  unfold OwnC at *
  rw [List.map_congr_left (fun i hi => e i (List.mem_range.1 hi))]; exact h
theorem OwnC.rc {w : World} {base : Nat} {t : TypeId} {size : Nat} {v : Value} {n : Nat} {c : Nat → Value} (h : OwnC w base t size v n c) : ∃ xa cap, v = .slice xa n cap ∧ Rc w xa (n * size) c ∧ n ≤ cap ∧ cap ≤ maxLen ∧ (∀ b o, xa = some ⟨b, o, none⟩ → base ≤ b) ∧ (xa = none → cap = 0) := by
  rcases h.2 with ⟨rfl, h0⟩ | ⟨g, cap, cur, rfl, hb, hg, hnc, hcm, hcs, ht⟩
  · subst h0
    exact ⟨none, 0, rfl, ⟨fun hp => by omega⟩, Nat.le_refl _, by unfold maxLen; omega, fun b o e => (by cases e), fun _ => rfl⟩
  · refine ⟨some ⟨g, 0, none⟩, cap, rfl, ⟨fun _ => ⟨g, 0, rfl, (Array.getElem?_eq_some_iff.1 hg).1, fun i hi => ?_⟩⟩, hnc, hcm, fun b o e => (by cases e; exact hb), fun e => (by cases e)⟩
    have := World.ownsRow.cells h (g := g) rfl i (c i) (by simp [hi])
    rw [Nat.zero_add, ← this, addr_add]

end Go.Proofs.YtahnkmkmoalbhaaGreatDoor

/- Plain mathematics of layer 5: the order of strings; bags of amounts. -/
namespace Go.Proofs.YtahnkmkmoalbhaaGreatDoor

/-! ### The order of strings -/
theorem bytesLess_irr : ∀ x : List UInt8, Op.bytesLess x x = false
  | [] => rfl
  | a :: x => by
    unfold Op.bytesLess
    rw [bytesLess_irr x]
    simp
theorem bytesLess_trans : ∀ x y z : List UInt8, Op.bytesLess x y = true → Op.bytesLess y z = true → Op.bytesLess x z = true
  | _, [], _, h, _ => by simp [Op.bytesLess] at h
  | _, _ :: _, [], _, h => by simp [Op.bytesLess] at h
  | [], _ :: _, _ :: _, _, _ => rfl
  | a :: x, b :: y, c :: z, h, g => by
    have ih := bytesLess_trans x y z
    unfold Op.bytesLess at h g ⊢
    simp only [Bool.or_eq_true, Bool.and_eq_true, decide_eq_true_eq, beq_iff_eq] at h g ⊢
    rcases h with h | ⟨rfl, h⟩
    · rcases g with g | ⟨rfl, g⟩
      · exact Or.inl (UInt8.lt_trans h g)
      · exact Or.inl h
    · rcases g with g | ⟨rfl, g⟩
      · exact Or.inl g
      · exact Or.inr ⟨rfl, ih h g⟩
theorem bytesLess_tri : ∀ x y : List UInt8, Op.bytesLess x y = false → Op.bytesLess y x = false → x = y
  | [], [], _, _ => rfl
  | [], _ :: _, h, _ => by simp [Op.bytesLess] at h
  | _ :: _, [], _, h => by simp [Op.bytesLess] at h
  | a :: x, b :: y, h, g => by
    have ih := bytesLess_tri x y
    unfold Op.bytesLess at h g
    simp only [Bool.or_eq_false_iff, Bool.and_eq_false_iff, decide_eq_false_iff_not, beq_eq_false_iff_ne] at h g
    have hab : a = b := UInt8.le_antisymm (UInt8.not_lt.1 g.1) (UInt8.not_lt.1 h.1)
    subst hab
    rw [ih (h.2.resolve_left fun e => e rfl) (g.2.resolve_left fun e => e rfl)]

/-- a stands before b -/
def bl (a b : ByteArray) : Bool := Op.bytesLess a.toList b.toList
theorem toList_inj {a b : ByteArray} (h : a.toList = b.toList) : a = b := by
  rw [Lib.toList_data, Lib.toList_data] at h
  exact ByteArray.ext (Array.toList_inj.1 h)
theorem bl_irr (a : ByteArray) : bl a a = false := bytesLess_irr _
theorem bl_trans {a b c : ByteArray} (h : bl a b = true) (g : bl b c = true) : bl a c = true := bytesLess_trans _ _ _ h g
theorem bl_tri {a b : ByteArray} (h : bl a b = false) (g : bl b a = false) : a = b := toList_inj (bytesLess_tri _ _ h g)
theorem bl_ne {a b : ByteArray} (h : bl a b = true) : a ≠ b := fun e => by rw [e, bl_irr] at h; exact absurd h (by decide)
theorem bl_asym {a b : ByteArray} (h : bl a b = true) : bl b a = false := by
  cases g : bl b a with
  | false => rfl
  | true => have := bl_trans h g; rw [bl_irr] at this; exact absurd this (by decide)

/-! ### Bags -/
abbrev Bag := List (ByteArray × Int)
def Asc (b : Bag) : Prop := b.Pairwise fun p q => bl p.1 q.1 = true
def NZ (b : Bag) : Prop := ∀ p, p ∈ b → p.2 ≠ 0
/-- the amount of the first pair with this code -/
def amt : Bag → ByteArray → Int
  | [], _ => 0
  | p :: r, c => if p.1 = c then p.2 else amt r c
theorem amt_before {b : Bag} {c : ByteArray} (h : ∀ p, p ∈ b → p.1 ≠ c) : amt b c = 0 := by
  induction b with
  | nil => rfl
  | cons p r ih =>
    unfold amt
    rw [if_neg (h p (by simp))]
    exact ih fun q hq => h q (by simp [hq])
theorem Asc.tail {p : ByteArray × Int} {r : Bag} (h : Asc (p :: r)) : Asc r := (List.pairwise_cons.1 h).2
theorem Asc.head {p : ByteArray × Int} {r : Bag} (h : Asc (p :: r)) : ∀ q, q ∈ r → bl p.1 q.1 = true := (List.pairwise_cons.1 h).1
theorem amt_low {p : ByteArray × Int} {r : Bag} {c : ByteArray} (h : Asc (p :: r)) (hc : bl p.1 c = false) : amt r c = 0 :=
  amt_before fun q hq e => by
    have h1 := h.head q hq
    rw [e, hc] at h1
    exact absurd h1 (by decide)
theorem amt_same {p : ByteArray × Int} {r : Bag} (h : Asc (p :: r)) : amt r p.1 = 0 := amt_before fun q hq e => bl_ne (h.head q hq) e.symm
theorem NZ.tail {p : ByteArray × Int} {r : Bag} (h : NZ (p :: r)) : NZ r := fun q hq => h q (by simp [hq])
/-- bags with the same amounts are the same -/
theorem bag_uniq : ∀ {a b : Bag}, Asc a → NZ a → Asc b → NZ b → (∀ c, amt a c = amt b c) → a = b
  | [], [], _, _, _, _, _ => rfl
  | [], q :: s, _, _, _, hn, h => by
    have := h q.1
    unfold amt at this
    rw [if_pos rfl] at this
    exact absurd this.symm (hn q (by simp))
  | p :: r, [], _, hn, _, _, h => by
    have := h p.1
    unfold amt at this
    rw [if_pos rfl] at this
    exact absurd this (hn p (by simp))
  | p :: r, q :: s, ha, na, hb, nb, h => by
    have e : p.1 = q.1 := by
      cases h1 : bl p.1 q.1 with
      | true =>
        have h2 := h p.1
        have h3 : amt (q :: s) p.1 = 0 := amt_before fun x hx e => by
          rcases List.mem_cons.1 hx with rfl | hx
          · exact bl_ne h1 e.symm
          · have := bl_trans h1 (hb.head x hx)
            rw [e, bl_irr] at this
            exact absurd this (by decide)
        rw [h3] at h2
        unfold amt at h2
        rw [if_pos rfl] at h2
        exact absurd h2 (na p (by simp))
      | false =>
        cases h2 : bl q.1 p.1 with
        | false => exact bl_tri h1 h2
        | true =>
          have h4 := h q.1
          have h3 : amt (p :: r) q.1 = 0 := amt_before fun x hx e => by
            rcases List.mem_cons.1 hx with rfl | hx
            · exact bl_ne h2 e.symm
            · have := bl_trans h2 (ha.head x hx)
              rw [e, bl_irr] at this
              exact absurd this (by decide)
          rw [h3] at h4
          unfold amt at h4
          rw [if_pos rfl] at h4
          exact absurd h4.symm (nb q (by simp))
    have e2 : p.2 = q.2 := by
      have := h p.1
      unfold amt at this
      rwa [if_pos rfl, if_pos e.symm] at this
    have hr : r = s := bag_uniq ha.tail na.tail hb.tail nb.tail fun c => by
      by_cases hc : p.1 = c
      · subst hc
        rw [amt_same ha, e, amt_same hb]
      · have := h c
        unfold amt at this
        rwa [if_neg hc, if_neg (by rw [← e]; exact hc)] at this
    rw [hr, Prod.ext e e2]

/-- an amount is put into a bag -/
def put : Bag → ByteArray → Int → Bag
  | [], c, x => if x = 0 then [] else [(c, x)]
  | p :: r, c, x => if x = 0 then p :: r else if bl p.1 c = true then p :: put r c x else if p.1 = c then (if p.2 + x = 0 then r else (c, p.2 + x) :: r) else (c, x) :: p :: r
theorem put_codes {b : Bag} {c : ByteArray} {x : Int} : ∀ q, q ∈ put b c x → q.1 = c ∨ ∃ p, p ∈ b ∧ p.1 = q.1 := by
  induction b with
  | nil =>
    intro q hq
    unfold put at hq
    split at hq
    · simp at hq
    · simp at hq; exact Or.inl (by rw [hq])
  | cons p r ih =>
    intro q hq
    unfold put at hq
    split at hq
    · exact Or.inr ⟨q, hq, rfl⟩
    · split at hq
      · rcases List.mem_cons.1 hq with rfl | hq
        · exact Or.inr ⟨q, by simp, rfl⟩
        · rcases ih q hq with h | ⟨y, hy, e⟩
          · exact Or.inl h
          · exact Or.inr ⟨y, by simp [hy], e⟩
      · split at hq
        · split at hq
          · exact Or.inr ⟨q, by simp [hq], rfl⟩
          · rcases List.mem_cons.1 hq with rfl | hq
            · exact Or.inl rfl
            · exact Or.inr ⟨q, by simp [hq], rfl⟩
        · rcases List.mem_cons.1 hq with rfl | hq
          · exact Or.inl rfl
          · exact Or.inr ⟨q, hq, rfl⟩
theorem put_amt {b : Bag} (h : Asc b) (c : ByteArray) (x : Int) (d : ByteArray) : amt (put b c x) d = amt b d + if c = d then x else 0 := by
  induction b with
  | nil =>
    unfold put
    by_cases hx : x = 0
    · rw [if_pos hx, hx]; simp
    · rw [if_neg hx]
      unfold amt
      by_cases hc : c = d
      · rw [if_pos hc, if_pos hc]; simp
      · rw [if_neg hc, if_neg hc]; rfl
  | cons p r ih =>
    unfold put
    by_cases hx : x = 0
    · rw [if_pos hx, hx]; simp
    rw [if_neg hx]
    by_cases h1 : bl p.1 c = true
    · rw [if_pos h1]
      unfold amt
      by_cases hd : p.1 = d
      · rw [if_pos hd, if_pos hd, if_neg (by rw [← hd]; exact fun e => bl_ne h1 e.symm), Int.add_zero]
      · rw [if_neg hd, if_neg hd, ih h.tail]
    · rw [if_neg h1]
      by_cases h2 : p.1 = c
      · rw [if_pos h2]
        by_cases hz : p.2 + x = 0
        · rw [if_pos hz]
          by_cases hd : c = d
          · subst hd
            rw [if_pos rfl, ← h2, amt_same h]
            unfold amt
            rw [if_pos rfl]
            omega
          · rw [if_neg hd, Int.add_zero]
            rw [amt.eq_2, if_neg (by rw [h2]; exact hd)]
        · rw [if_neg hz, amt.eq_2, amt.eq_2]
          by_cases hd : c = d
          · rw [if_pos hd, if_pos hd, if_pos (by rw [h2]; exact hd)]
          · rw [if_neg hd, if_neg hd, if_neg (by rw [h2]; exact hd), Int.add_zero]
      · rw [if_neg h2, amt.eq_2]
        by_cases hd : c = d
        · subst hd
          rw [if_pos rfl, if_pos rfl, amt.eq_2, if_neg h2, amt_low h (by simpa using h1), Int.zero_add]
        · rw [if_neg hd, if_neg hd, Int.add_zero]
theorem put_asc {b : Bag} (h : Asc b) (c : ByteArray) (x : Int) : Asc (put b c x) := by
  induction b with
  | nil =>
    unfold put
    split
    · exact h
    · exact List.pairwise_singleton _ _
  | cons p r ih =>
    unfold put
    split
    · exact h
    · split
      · rename_i h1
        refine List.pairwise_cons.2 ⟨fun q hq => ?_, ih h.tail⟩
        rcases put_codes q hq with e | ⟨y, hy, e⟩
        · rw [e]; exact h1
        · rw [← e]; exact h.head y hy
      · rename_i h1
        split
        · rename_i h2
          split
          · exact h.tail
          · refine List.pairwise_cons.2 ⟨fun q hq => ?_, h.tail⟩
            show bl c q.1 = true
            rw [← h2]; exact h.head q hq
        · rename_i h2
          have h3 : bl c p.1 = true := by
            cases g : bl c p.1 with
            | true => rfl
            | false => exact absurd (bl_tri (by simpa using h1) g) h2
          refine List.pairwise_cons.2 ⟨fun q hq => ?_, h⟩
          rcases List.mem_cons.1 hq with rfl | hq
          · exact h3
          · exact bl_trans h3 (h.head q hq)
theorem put_nz {b : Bag} (h : NZ b) (c : ByteArray) (x : Int) : NZ (put b c x) := by
  induction b with
  | nil =>
    unfold put
    split
    · exact h
    · intro p hp; simp at hp; rw [hp]; assumption
  | cons p r ih =>
    unfold put
    split
    · exact h
    · split
      · intro q hq
        rcases List.mem_cons.1 hq with rfl | hq
        · exact h q (by simp)
        · exact ih h.tail q hq
      · split
        · split
          · exact h.tail
          · intro q hq
            rcases List.mem_cons.1 hq with rfl | hq
            · assumption
            · exact h q (by simp [hq])
        · intro q hq
          rcases List.mem_cons.1 hq with rfl | hq
          · assumption
          · exact h q hq

/-- the sum: the amounts of the second are put one after the other -/
def addB (a b : Bag) : Bag := b.foldl (fun s p => put s p.1 p.2) a
theorem addB_asc {a b : Bag} (h : Asc a) : Asc (addB a b) := by
  induction b generalizing a with
  | nil => exact h
  | cons p r ih => exact ih (put_asc h _ _)
theorem addB_nz {a b : Bag} (h : NZ a) : NZ (addB a b) := by
  induction b generalizing a with
  | nil => exact h
  | cons p r ih => exact ih (put_nz h _ _)
theorem addB_amt {a b : Bag} (ha : Asc a) (hb : Asc b) (c : ByteArray) : amt (addB a b) c = amt a c + amt b c := by
  induction b generalizing a with
  | nil => simp [addB, amt]
  | cons p r ih =>
    show amt (addB (put a p.1 p.2) r) c = _
    rw [ih (put_asc ha _ _) hb.tail, put_amt ha, amt.eq_2]
    by_cases hc : p.1 = c
    · rw [if_pos hc, if_pos hc, ← hc, amt_same hb]; omega
    · rw [if_neg hc, if_neg hc]; omega
/-- the opposite amounts -/
def negB (b : Bag) : Bag := b.map fun p => (p.1, -p.2)
end Go.Proofs.YtahnkmkmoalbhaaGreatDoor
