/- The reference of layer 3: Fraction, Parse. -/
import Derived.Test.YtahnkmkmoalbhaaGreatDoorZBJ
import Derived.Deep.DeepCutAuto
import Derived.Laws.NewBlocks
namespace Go.Proofs.YtahnkmkmoalbhaaGreatDoor.Num
open Go.Lib (decDigits)

theorem dot_ne : ∀ (l : Bs) (k : Nat) (_ : k < dot l) (h' : k < l.length), l[k] ≠ 46
  | [], _, _, h' => absurd h' (Nat.not_lt_zero _)
  | c :: l, k, h, h' => by
    unfold dot at h
    rw [List.takeWhile_cons] at h
    by_cases hc : (c != 46) = true
    · rw [if_pos hc] at h
      match k, h, h' with
      | 0, _, _ => simpa using hc
      | k + 1, h, h' =>
        simp only [List.length_cons] at h h'
        exact dot_ne l k (by unfold dot; omega) (by omega)
    · rw [if_neg hc] at h
      simp at h
theorem dot_is : ∀ (l : Bs) (k : Nat) (_ : k = dot l) (h' : k < l.length), l[k] = 46
  | [], _, _, h' => absurd h' (Nat.not_lt_zero _)
  | c :: l, k, h, h' => by
    unfold dot at h
    rw [List.takeWhile_cons] at h
    by_cases hc : (c != 46) = true
    · rw [if_pos hc] at h
      match k, h, h' with
      | 0, h, _ => simp at h
      | k + 1, h, h' =>
        simp only [List.length_cons] at h h'
        exact dot_is l k (by unfold dot; omega) (by omega)
    · rw [if_neg hc] at h
      subst h
      simpa using hc
theorem isDec_parts {l r : Bs} {ng : Bool} (h : cut l = (ng, r)) : isDec l = (goodW (r.takeWhile (· != 46)) && ((r.dropWhile (· != 46)).isEmpty || (!(r.dropWhile (· != 46)).tail.isEmpty && (r.dropWhile (· != 46)).tail.all isDig)) && (!ng || decide (num (r.takeWhile (· != 46) ++ (r.dropWhile (· != 46)).tail) ≠ 0))) := by
  unfold isDec decM dotF dotT dotW
  rw [h]
theorem decU_parts {l r : Bs} {ng : Bool} (h : cut l = (ng, r)) : decU l = if ng then -(num (r.takeWhile (· != 46) ++ (r.dropWhile (· != 46)).tail) : Int) else num (r.takeWhile (· != 46) ++ (r.dropWhile (· != 46)).tail) := by
  unfold decU decM dotF dotT dotW
  rw [h]
theorem decP_parts {l r : Bs} {ng : Bool} (h : cut l = (ng, r)) : decP l = ((r.dropWhile (· != 46)).tail).length := by
  unfold decP dotF dotT
  rw [h]
theorem no_dot_drop {r : Bs} (h : dot r = r.length) : r.takeWhile (· != 46) = r ∧ r.dropWhile (· != 46) = [] := by
  have h1 := List.takeWhile_append_dropWhile (p := (· != 46)) (l := r)
  have h2 : (r.dropWhile (· != 46)).length = 0 := by
    have := congrArg List.length h1
    rw [List.length_append] at this
    unfold dot at h
    omega
  have h3 := List.eq_nil_of_length_eq_zero h2
  rw [h3, List.append_nil] at h1
  exact ⟨h1, h3⟩
theorem dot_drop {r : Bs} (h : dot r < r.length) : r.dropWhile (· != 46) ≠ [] := by
  intro e
  have h1 := List.takeWhile_append_dropWhile (p := (· != 46)) (l := r)
  rw [e, List.append_nil] at h1
  unfold dot at h
  rw [h1] at h
  omega
theorem goodW_bool {W : Bs} : goodW W = ((W.all isDig && !W.isEmpty) && (decide (W.length = 1) || decide (W.head? ≠ some 48))) := by
  unfold goodW
  cases W.isEmpty <;> cases W.all isDig <;> rfl
end Go.Proofs.YtahnkmkmoalbhaaGreatDoor.Num
namespace Go.Proofs.YtahnkmkmoalbhaaGreatDoor
open Go.RowKit Fra

/-- the answer of Fraction -/
def frE (s : ByteArray) : Value := if isDecS s = true then fraE (cS (low (unitsD s, (10 : Int) ^ placesD s)).1) (cD (low (unitsD s, (10 : Int) ^ placesD s)).2) 0 else fraE ⟨#[]⟩ ⟨#[]⟩ 3
/-- a text by its parts: whether it has a sign, whether a point; ahead of the point; behind it -/
structure PartsAt (s : ByteArray) (ng dt : Bool) (W F : ByteArray) : Prop where
  isd : isDecS s = (Num.goodW W.data.toList && (!dt || digsB F.data.toList) && (!ng || decide (Num.num (W.data.toList ++ F.data.toList) ≠ 0)))
  un : unitsD s = if ng then -(Num.num (W.data.toList ++ F.data.toList) : Int) else Num.num (W.data.toList ++ F.data.toList)
  pl : placesD s = F.size
  nf : dt = false → F = ⟨#[]⟩
theorem PartsAt.none {s R : ByteArray} {ng : Bool} (h : Num.cut s.data.toList = (ng, R.data.toList)) (hd : Num.dot R.data.toList = R.size) : PartsAt s ng false R ⟨#[]⟩ := by
  obtain ⟨h1, h2⟩ := Num.no_dot_drop (r := R.data.toList) (by rw [hd, size_toList])
  refine ⟨?_, ?_, ?_, fun _ => rfl⟩
  · unfold isDecS; rw [Num.isDec_parts h, h1, h2]; simp
  · unfold unitsD; rw [Num.decU_parts h, h1, h2]; rfl
  · unfold placesD; rw [Num.decP_parts h, h2]; rfl
theorem PartsAt.some {s R W F : ByteArray} {ng : Bool} {d : Nat} (h : Num.cut s.data.toList = (ng, R.data.toList)) (hd : Num.dot R.data.toList = d) (hl : d < R.size) (hW : R.extract 0 d = W) (hF : R.extract (d + 1) R.size = F) : PartsAt s ng true W F := by
  have h1 : W.data.toList = R.data.toList.takeWhile (· != 46) := by
    rw [← hW, ByteArray.data_extract, Array.toList_extract, List.extract_eq_take_drop]
    have := Num.take_bef R.data.toList
    unfold Num.bef at this
    rw [hd] at this
    simpa using this
  have h2 : F.data.toList = (R.data.toList.dropWhile (· != 46)).tail := by
    rw [← hF, ByteArray.data_extract, Array.toList_extract, List.extract_eq_take_drop]
    have := Num.drop_beh R.data.toList
    unfold Num.beh at this
    rw [hd] at this
    rw [← this]
    exact List.take_of_length_le (by rw [List.length_drop, size_toList]; omega)
  have h3 := Num.dot_drop (r := R.data.toList) (by rw [hd, size_toList]; exact hl)
  refine ⟨?_, ?_, ?_, fun e => by cases e⟩
  · unfold isDecS
    rw [Num.isDec_parts h, ← h1, ← h2]
    have h4 : (R.data.toList.dropWhile (· != 46)).isEmpty = false := by simpa using h3
    rw [h4]
    unfold digsB
    cases F.data.toList.isEmpty <;> cases F.data.toList.all Num.isDig <;> rfl
  · unfold unitsD; rw [Num.decU_parts h, ← h1, ← h2]
  · unfold placesD; rw [Num.decP_parts h, ← h2, size_toList]
theorem frE_bad {s : ByteArray} (h : isDecS s = false) : frE s = fraE ⟨#[]⟩ ⟨#[]⟩ 3 := by unfold frE; rw [h]; rfl
theorem frE_ok {s : ByteArray} (h : isDecS s = true) : frE s = fraE (cS (low (unitsD s, (10 : Int) ^ placesD s)).1) (cD (low (unitsD s, (10 : Int) ^ placesD s)).2) 0 := by unfold frE; rw [if_pos h]
theorem goodW_no {W : ByteArray} (h : digsB W.data.toList = false) : Num.goodW W.data.toList = false := by
  rw [Num.goodW_bool]; unfold digsB at h; rw [h]; rfl
theorem head_at {W : ByteArray} (h0 : 0 < W.size) : W.data.toList.head? = Option.some (W[0]'h0) := by
  have h' : 0 < W.data.toList.length := by rw [size_toList]; exact h0
  rw [List.head?_eq_getElem?, List.getElem?_eq_getElem h', byte_at W 0 h0 h']
theorem goodW_zero {W : ByteArray} (h1 : 1 < W.size) (h0 : ((W[0]'(by omega)).toNat : Int) = 48) : Num.goodW W.data.toList = false := by
  have h2 : W[0]'(by omega) = 48 := by apply UInt8.toNat_inj.1; show _ = 48; omega
  rw [Num.goodW_bool, head_at (by omega), h2]
  have h3 : decide (W.data.toList.length = 1) = false := decide_eq_false (by rw [size_toList]; omega)
  rw [h3]
  simp
theorem goodW_yes {W : ByteArray} (h : digsB W.data.toList = true) (h0 : ¬ 1 < W.size ∨ ∃ h1 : 1 < W.size, ((W[0]'(by omega)).toNat : Int) ≠ 48) : Num.goodW W.data.toList = true := by
  rw [Num.goodW_bool]
  unfold digsB at h
  rw [h]
  have hne : W.data.toList ≠ [] := by
    simp only [Bool.and_eq_true, Bool.not_eq_true', List.isEmpty_eq_false_iff] at h
    exact h.2
  have hpos : 0 < W.data.toList.length := List.length_pos_iff.mpr hne
  rw [size_toList] at hpos
  rcases h0 with h0 | ⟨h1, h0⟩
  · have h3 : decide (W.data.toList.length = 1) = true := decide_eq_true (by rw [size_toList]; omega)
    rw [h3]; rfl
  · rw [head_at (by omega)]
    have h3 : decide (Option.some (W[0]'(by omega)) ≠ Option.some 48) = true := decide_eq_true (by intro e; injection e with e; rw [e] at h0; exact h0 rfl)
    rw [h3]; simp
theorem digits_all {W F : ByteArray} (hw : digsB W.data.toList = true) (hf : F = ⟨#[]⟩ ∨ digsB F.data.toList = true) : (W ++ F).data.toList.all Num.isDig = true := by
  rw [ByteArray.data_append, Array.toList_append, List.all_append]
  unfold digsB at hw hf
  rw [Bool.and_eq_true] at hw
  rw [hw.1]
  rcases hf with rfl | hf
  · rfl
  · rw [Bool.and_eq_true] at hf; rw [hf.1]; rfl
theorem nil_app (s : ByteArray) : (⟨#[]⟩ : ByteArray) ++ s = s := by
  apply ByteArray.ext
  apply Array.toList_inj.1
  rw [ByteArray.data_append, Array.toList_append]
  rfl
theorem minus_val {M : Nat} (h : M ≠ 0) : (⟨#[45]⟩ : ByteArray) ++ cS (M : Int) = cS (-(M : Int)) := by
  apply ByteArray.ext
  apply Array.toList_inj.1
  rw [ByteArray.data_append, Array.toList_append]
  unfold cS Num.canon
  rw [if_neg (by omega), if_pos (by omega), Int.natAbs_neg]
  rfl

end Go.Proofs.YtahnkmkmoalbhaaGreatDoor

/- The reference of layer 3: Fraction: a text with a sign. -/
namespace Go.Proofs.YtahnkmkmoalbhaaGreatDoor
open Go.RowKit Fra

set_option maxRecDepth 100000 in
set_option maxHeartbeats 8000000 in
theorem kFra_n {s R : ByteArray} (hs : s.size ≤ 60) (hs0 : 0 < s.size) (hne : s.toList.isEmpty = false) (hb0 : ((s[0]'hs0).toNat : Int) = 45) (hx : s.extract 1 s.size = R) (hRs0 : R.size ≤ 60) (hcut : Num.cut s.data.toList = (true, R.data.toList)) : Ret 92 #[.string s] (frE s) := by
  intro w hG
  have hRs : R.size ≤ 60 := by omega
  obtain ⟨d, hd⟩ : ∃ d, Num.dot R.data.toList = d := ⟨_, rfl⟩
  have hdl : d ≤ R.size := by rw [← hd, ← size_toList]; exact Num.dot_le _
  obtain ⟨W0, hW0⟩ : ∃ W0, W0 = w.alloc (.cells #[.string ⟨#[]⟩, .string ⟨#[]⟩] 59) := ⟨_, rfl⟩
  have hS0 : StL w W0 [(w.heap.size, ⟨#[]⟩, ⟨#[]⟩)] := by rw [hW0]; exact StL.one hG _ _
  have hsz : ¬ (65536 : Int) < s.size := by omega
  have HD := Lib.hid hd
  have HCU := Lib.hid hcut
  clear hd hcut
  have HX := Lib.hid hx
  clear hx
  go_enter Tryz.func92, Tryz.ntmps92
  go_wp2_with fail
  rw [← hW0]
  clear hW0
  have hx := HX.out
  go_region
  clear hx
  obtain ⟨V, hV⟩ : ∃ V, V = W0.drew := ⟨_, rfl⟩
  have hS : StL w V [(w.heap.size, ⟨#[]⟩, ⟨#[]⟩)] := by rw [hV]; exact hS0.drew
  rw [← hV]
  clear hV hS0
  go_wp2_with fail
  clear hb0 hne hs0
  obtain ⟨E0, hE0⟩ : ∃ F : ByteArray, F = ⟨#[]⟩ := ⟨_, rfl⟩
  have HE0 := Lib.hid hE0
  clear hE0
  have HSt := Lib.hid hS
  clear hS
  go_loopw [6, 7, 8] (fun wv fv iv wr => ∃ k : Nat, k ≤ d ∧ wv = .string R ∧ fv = .string E0 ∧ iv = .int .i64 (k : Int) ∧ V = wr) (fun _ _ iv _ => R.size - (intOf iv).toNat)
  case atStart => exact ⟨0, Nat.zero_le _, rfl, by rw [HE0.out], rfl, rfl⟩
  case round =>
    obtain ⟨k, hk, rfl, rfl, rfl, rfl⟩ := hrel
    by_cases hlt : k < R.size
    · have hlti : (k : Int) < R.size := by omega
      have hlt' : k < R.data.toList.length := by rw [size_toList]; exact hlt
      by_cases hkd : k = d
      · have h46 : ((R[k]'hlt).toNat : Int) = 46 := by rw [← byte_at R k hlt hlt', Num.dot_is _ k (by rw [HD.out]; exact hkd) hlt']; rfl
        subst hkd
        clear hlt' hk
        obtain ⟨W, hW⟩ : ∃ W, R.extract 0 k = W := ⟨_, rfl⟩
        obtain ⟨F, hF⟩ : ∃ F, R.extract (k + 1) R.size = F := ⟨_, rfl⟩
        have HP := Lib.hid (PartsAt.some HCU.out HD.out hlt hW hF)
        have hWs : W.size ≤ 60 := by rw [← hW, ByteArray.size_extract]; omega
        have hFz : F.size ≤ 60 := by rw [← hF, ByteArray.size_extract]; omega
        have hkw : IntKind.i64.wrap ((k : Int) + 1) = (k : Int) + 1 := IntWalk.i64_in _ (by omega)
        have hk1 : (k : Int) + 1 ≤ R.size := by omega
        have hk2 : (k : Int) ≤ R.size := by omega
        go_wp2_with fail
        go_region
        clear hkw hk1 hk2 h46 hW hF hlti hlt hdl
        obtain ⟨U, hU⟩ : ∃ U, U = V.drew := ⟨_, rfl⟩
        have HSt2 := Lib.hid (show StL w U [(w.heap.size, ⟨#[]⟩, ⟨#[]⟩)] by rw [hU]; exact HSt.out.drew)
        rw [← hU]
        clear hU HSt
        have HSt := HSt2
        clear HSt2
        have hP := HSt.out.box.1
        have hB := HSt.out.below
        cases hdf : digsB F.data.toList with
        | false =>
          go_wp2_with fail
          refine (kDigits F _ (by omega)).mono ?_
          rintro _ _ ⟨rfl, rfl⟩
          rw [hdf]
          have HE := Lib.hid (show frE s = fraE ⟨#[]⟩ ⟨#[]⟩ 3 from frE_bad (by rw [HP.out.isd, hdf]; cases Num.goodW W.data.toList <;> rfl))
          clear HP 
          obtain ⟨c4, c5, c6, c7⟩ := hP.cells
          go_wp2_with fail
          obtain ⟨k0, k1, _, _⟩ := (hP.put ⟨#[]⟩ ⟨#[]⟩).cells
          exact bodyPost_ret (v := fraE ⟨#[]⟩ ⟨#[]⟩ 3) (by simp [results, Tryz.results92, go_sem, k0, k1]) rfl ⟨by rw [HE.out], below_put hB (Nat.le_refl _) _ _⟩
        | true =>
          have HDF := Lib.hid hdf
          go_wp2_with fail
          refine (kDigits F _ (by omega)).mono ?_
          rintro _ _ ⟨rfl, rfl⟩
          rw [hdf]
          clear hdf
          cases hdw : digsB W.data.toList with
          | false =>
            go_wp2_with fail
            refine (kDigits W _ (by omega)).mono ?_
            rintro _ _ ⟨rfl, rfl⟩
            rw [hdw]
            have HE := Lib.hid (show frE s = fraE ⟨#[]⟩ ⟨#[]⟩ 3 from frE_bad (by rw [HP.out.isd, goodW_no hdw]; rfl))
            clear HP hdw
            obtain ⟨c4, c5, c6, c7⟩ := hP.cells
            go_wp2_with fail
            obtain ⟨k0, k1, _, _⟩ := (hP.put ⟨#[]⟩ ⟨#[]⟩).cells
            exact bodyPost_ret (v := fraE ⟨#[]⟩ ⟨#[]⟩ 3) (by simp [results, Tryz.results92, go_sem, k0, k1]) rfl ⟨by rw [HE.out], below_put hB (Nat.le_refl _) _ _⟩
          | true =>
            have HDW := Lib.hid hdw
            by_cases hw1 : 1 < W.size
            · have hw0 : 0 < W.size := by omega
              by_cases h48 : ((W[0]'hw0).toNat : Int) = 48
              · have HZ := Lib.hid (show isDecS s = false by rw [HP.out.isd, goodW_zero hw1 h48]; rfl)
                have hw1i : (1 : Int) < W.size := by omega
                clear hdw
                go_wp2_with fail
                refine (kDigits W _ (by omega)).mono ?_
                rintro _ _ ⟨rfl, rfl⟩
                rw [HDW.out]
                have HE := Lib.hid (show frE s = fraE ⟨#[]⟩ ⟨#[]⟩ 3 from frE_bad (by exact HZ.out))
                clear HP HDW
                obtain ⟨c4, c5, c6, c7⟩ := hP.cells
                go_wp2_with fail
                obtain ⟨k0, k1, _, _⟩ := (hP.put ⟨#[]⟩ ⟨#[]⟩).cells
                exact bodyPost_ret (v := fraE ⟨#[]⟩ ⟨#[]⟩ 3) (by simp [results, Tryz.results92, go_sem, k0, k1]) rfl ⟨by rw [HE.out], below_put hB (Nat.le_refl _) _ _⟩
              · have hgd : Num.goodW W.data.toList = true := goodW_yes hdw (.inr ⟨hw1, h48⟩)
                have hw1i : (1 : Int) < W.size := by omega
                have h48b : (((W[0]'hw0).toNat : Int) == 48) = false := by simpa using h48
                clear hdw
                have HGW := Lib.hid (hgd)
                obtain ⟨M, hM⟩ : ∃ M, Num.num (W.data.toList ++ F.data.toList) = M := ⟨_, rfl⟩
                have hda := digits_all (W := W) (F := F) HDW.out (.inr HDF.out)
                have hvj : vS (W ++ F) = (M : Int) := by unfold vS; rw [Num.val_digits hda, ByteArray.data_append, Array.toList_append, hM]
                have hmc : Cap 120 (M : Int) := by rw [← hvj]; exact Cap.of (s := W ++ F) (by rw [ByteArray.size_append]; omega) rfl
                obtain ⟨m, hm⟩ : ∃ m, cS (M : Int) = m := ⟨_, rfl⟩
                have hms : m.size ≤ 122 := by rw [← hm]; have := cS_size hmc; omega
                have HC := Lib.hid (show ∀ Z, Calls Tryz.prog 81 #[.string (W ++ F)] Z fun e w' => e = .returned (.string m) ∧ Z = w' from fun Z => by rw [← hm, ← hvj]; exact rCanonical_any _ Z (by rw [ByteArray.size_append]; omega))
                have hbj : ¬ 9223372036854775807 < W.size + F.size := by omega
                have hbs : ¬ 9223372036854775807 < 1 + m.size := by omega
                have hme : m.toList.isEmpty = decide ((M : Int) = 0) := by rw [← hm]; exact eq_nil _
                by_cases hM0 : M = 0
                · have hmz : m.toList.isEmpty = true := by rw [hme, decide_eq_true_eq]; omega
                  clear hme hms hmc hvj hda hm
                  have HMZ := Lib.hid hmz
                  clear hmz
                  have HZ := Lib.hid (show isDecS s = false by rw [HP.out.isd, hM, hM0]; simp)
                  clear hM HGW
                  go_wp2_with fail
                  refine (kDigits W _ (by omega)).mono ?_
                  rintro _ _ ⟨rfl, rfl⟩
                  rw [HDW.out]
                  go_wp2_with fail
                  refine (HC.out _).mono ?_
                  rintro _ _ ⟨rfl, rfl⟩
                  have hmz := HMZ.out
                  have HE := Lib.hid (show frE s = fraE ⟨#[]⟩ ⟨#[]⟩ 3 from frE_bad (by exact HZ.out))
                  clear HP HC hbj hbs
                  obtain ⟨c4, c5, c6, c7⟩ := hP.cells
                  go_wp2_with fail
                  obtain ⟨k0, k1, _, _⟩ := (hP.put ⟨#[]⟩ ⟨#[]⟩).cells
                  exact bodyPost_ret (v := fraE ⟨#[]⟩ ⟨#[]⟩ 3) (by simp [results, Tryz.results92, go_sem, k0, k1]) rfl ⟨by rw [HE.out], below_put hB (Nat.le_refl _) _ _⟩
                · have hmz : m.toList.isEmpty = false := by rw [hme, decide_eq_false_iff_not]; omega
                  clear hme
                  have hisd : isDecS s = true := by rw [HP.out.isd, HGW.out, hM]; rw [HDF.out]; simp; omega
                  have hun : unitsD s = -(M : Int) := by rw [HP.out.un, hM]; rfl
                  have hpl := HP.out.pl
                  have hFs : F.size ≤ 60 := by omega
                  obtain ⟨x, hx⟩ : ∃ x, low (unitsD s, (10 : Int) ^ placesD s) = x := ⟨_, rfl⟩
                  have HE := Lib.hid (show frE s = fraE (cS x.1) (cD x.2) 0 by rw [frE_ok hisd, hx])
                  have HN := Lib.hid (show Ret 127 #[.string ((⟨#[45]⟩ : ByteArray) ++ m), .string (cS ((10 : Int) ^ F.size))] (fraE (cS x.1) (cD x.2) 0) from fun Z hZ => by
                    have h := qNew_any (n := (⟨#[45]⟩ : ByteArray) ++ m) (d := cS ((10 : Int) ^ F.size)) (x := unitsD s) (y := (10 : Int) ^ F.size) Z hZ (by rw [ByteArray.size_append]; show 1 + m.size ≤ 850; omega) (by have := tens_size F.size; omega) (by rw [hun, ← hm, minus_val hM0]; exact vS_cS _) (vS_cS _) (by have := Num.pow10 F.size; omega)
                    rw [redS_pow, ← hpl, hx] at h
                    rw [hpl] at h
                    exact h)
                  clear hisd hun hx HP HGW hM hda hvj hmc hm hms hpl hM0
                  have HFS := Lib.hid hFs
                  clear hFs
                  have hS : StL w U [(w.heap.size, ⟨#[]⟩, ⟨#[]⟩)] := HSt.out
                  go_wp2_with fail
                  refine (kDigits W _ (by omega)).mono ?_
                  rintro _ _ ⟨rfl, rfl⟩
                  rw [HDW.out]
                  go_wp2_with fail
                  refine (HC.out _).mono ?_
                  rintro _ _ ⟨rfl, rfl⟩
                  go_wp2_with fail
                  refine (kPower F.size _ (by have := HFS.out; omega)).mono ?_
                  rintro _ _ ⟨rfl, rfl⟩
                  go_wp2_with fail
                  refine (Ret.call HN.out _ hS.g).mono ?_
                  rintro _ w1 ⟨rfl, hB1⟩
                  replace hS := hS.next hB1
                  clear hB1 hP
                  go_upto_region 20 with fail
                  obtain ⟨b3, hb3⟩ : ∃ b, b = w1.heap.size := ⟨_, rfl⟩
                  obtain ⟨V3, hV3⟩ : ∃ V, V = w1.alloc (.cells #[.string (cS x.1), .string (cD x.2)] 59) := ⟨_, rfl⟩
                  have hT : StL w V3 [(b3, cS x.1, cD x.2), (w.heap.size, ⟨#[]⟩, ⟨#[]⟩)] := by rw [hV3, hb3]; exact hS.alloc _ _
                  rw [← hb3, ← hV3]
                  clear hV3 hb3 hS
                  have hT2 := StL.swap hT
                  obtain ⟨p0, p1, _⟩ := hT.box
                  obtain ⟨x0, y0, _, _⟩ := p0.cells
                  obtain ⟨x1, y1, z1, t1⟩ := p1.cells
                  go_wp2_with fail
                  have hT3 := StL.fill hG hT2 (cS x.1) (cD x.2)
                  obtain ⟨k0, k1, _, _⟩ := hT3.box.1.cells
                  exact bodyPost_ret (v := fraE (cS x.1) (cD x.2) 0) (by simp [results, Tryz.results92, go_sem, k0, k1]) rfl ⟨by rw [HE.out], hT3.below⟩
            · have hgd : Num.goodW W.data.toList = true := goodW_yes hdw (.inl hw1)
              have hw1i : ¬ (1 : Int) < W.size := by omega
              clear hdw
              have HGW := Lib.hid (hgd)
              obtain ⟨M, hM⟩ : ∃ M, Num.num (W.data.toList ++ F.data.toList) = M := ⟨_, rfl⟩
              have hda := digits_all (W := W) (F := F) HDW.out (.inr HDF.out)
              have hvj : vS (W ++ F) = (M : Int) := by unfold vS; rw [Num.val_digits hda, ByteArray.data_append, Array.toList_append, hM]
              have hmc : Cap 120 (M : Int) := by rw [← hvj]; exact Cap.of (s := W ++ F) (by rw [ByteArray.size_append]; omega) rfl
              obtain ⟨m, hm⟩ : ∃ m, cS (M : Int) = m := ⟨_, rfl⟩
              have hms : m.size ≤ 122 := by rw [← hm]; have := cS_size hmc; omega
              have HC := Lib.hid (show ∀ Z, Calls Tryz.prog 81 #[.string (W ++ F)] Z fun e w' => e = .returned (.string m) ∧ Z = w' from fun Z => by rw [← hm, ← hvj]; exact rCanonical_any _ Z (by rw [ByteArray.size_append]; omega))
              have hbj : ¬ 9223372036854775807 < W.size + F.size := by omega
              have hbs : ¬ 9223372036854775807 < 1 + m.size := by omega
              have hme : m.toList.isEmpty = decide ((M : Int) = 0) := by rw [← hm]; exact eq_nil _
              by_cases hM0 : M = 0
              · have hmz : m.toList.isEmpty = true := by rw [hme, decide_eq_true_eq]; omega
                clear hme hms hmc hvj hda hm
                have HMZ := Lib.hid hmz
                clear hmz
                have HZ := Lib.hid (show isDecS s = false by rw [HP.out.isd, hM, hM0]; simp)
                clear hM HGW
                go_wp2_with fail
                refine (kDigits W _ (by omega)).mono ?_
                rintro _ _ ⟨rfl, rfl⟩
                rw [HDW.out]
                go_wp2_with fail
                refine (HC.out _).mono ?_
                rintro _ _ ⟨rfl, rfl⟩
                have hmz := HMZ.out
                have HE := Lib.hid (show frE s = fraE ⟨#[]⟩ ⟨#[]⟩ 3 from frE_bad (by exact HZ.out))
                clear HP HC hbj hbs
                obtain ⟨c4, c5, c6, c7⟩ := hP.cells
                go_wp2_with fail
                obtain ⟨k0, k1, _, _⟩ := (hP.put ⟨#[]⟩ ⟨#[]⟩).cells
                exact bodyPost_ret (v := fraE ⟨#[]⟩ ⟨#[]⟩ 3) (by simp [results, Tryz.results92, go_sem, k0, k1]) rfl ⟨by rw [HE.out], below_put hB (Nat.le_refl _) _ _⟩
              · have hmz : m.toList.isEmpty = false := by rw [hme, decide_eq_false_iff_not]; omega
                clear hme
                have hisd : isDecS s = true := by rw [HP.out.isd, HGW.out, hM]; rw [HDF.out]; simp; omega
                have hun : unitsD s = -(M : Int) := by rw [HP.out.un, hM]; rfl
                have hpl := HP.out.pl
                have hFs : F.size ≤ 60 := by omega
                obtain ⟨x, hx⟩ : ∃ x, low (unitsD s, (10 : Int) ^ placesD s) = x := ⟨_, rfl⟩
                have HE := Lib.hid (show frE s = fraE (cS x.1) (cD x.2) 0 by rw [frE_ok hisd, hx])
                have HN := Lib.hid (show Ret 127 #[.string ((⟨#[45]⟩ : ByteArray) ++ m), .string (cS ((10 : Int) ^ F.size))] (fraE (cS x.1) (cD x.2) 0) from fun Z hZ => by
                  have h := qNew_any (n := (⟨#[45]⟩ : ByteArray) ++ m) (d := cS ((10 : Int) ^ F.size)) (x := unitsD s) (y := (10 : Int) ^ F.size) Z hZ (by rw [ByteArray.size_append]; show 1 + m.size ≤ 850; omega) (by have := tens_size F.size; omega) (by rw [hun, ← hm, minus_val hM0]; exact vS_cS _) (vS_cS _) (by have := Num.pow10 F.size; omega)
                  rw [redS_pow, ← hpl, hx] at h
                  rw [hpl] at h
                  exact h)
                clear hisd hun hx HP HGW hM hda hvj hmc hm hms hpl hM0
                have HFS := Lib.hid hFs
                clear hFs
                have hS : StL w U [(w.heap.size, ⟨#[]⟩, ⟨#[]⟩)] := HSt.out
                go_wp2_with fail
                refine (kDigits W _ (by omega)).mono ?_
                rintro _ _ ⟨rfl, rfl⟩
                rw [HDW.out]
                go_wp2_with fail
                refine (HC.out _).mono ?_
                rintro _ _ ⟨rfl, rfl⟩
                go_wp2_with fail
                refine (kPower F.size _ (by have := HFS.out; omega)).mono ?_
                rintro _ _ ⟨rfl, rfl⟩
                go_wp2_with fail
                refine (Ret.call HN.out _ hS.g).mono ?_
                rintro _ w1 ⟨rfl, hB1⟩
                replace hS := hS.next hB1
                clear hB1 hP
                go_upto_region 20 with fail
                obtain ⟨b3, hb3⟩ : ∃ b, b = w1.heap.size := ⟨_, rfl⟩
                obtain ⟨V3, hV3⟩ : ∃ V, V = w1.alloc (.cells #[.string (cS x.1), .string (cD x.2)] 59) := ⟨_, rfl⟩
                have hT : StL w V3 [(b3, cS x.1, cD x.2), (w.heap.size, ⟨#[]⟩, ⟨#[]⟩)] := by rw [hV3, hb3]; exact hS.alloc _ _
                rw [← hb3, ← hV3]
                clear hV3 hb3 hS
                have hT2 := StL.swap hT
                obtain ⟨p0, p1, _⟩ := hT.box
                obtain ⟨x0, y0, _, _⟩ := p0.cells
                obtain ⟨x1, y1, z1, t1⟩ := p1.cells
                go_wp2_with fail
                have hT3 := StL.fill hG hT2 (cS x.1) (cD x.2)
                obtain ⟨k0, k1, _, _⟩ := hT3.box.1.cells
                exact bodyPost_ret (v := fraE (cS x.1) (cD x.2) 0) (by simp [results, Tryz.results92, go_sem, k0, k1]) rfl ⟨by rw [HE.out], hT3.below⟩
      · have h46 : (((R[k]'hlt).toNat : Int) == 46) = false := by
          have := Num.dot_ne R.data.toList k (by rw [HD.out]; omega) hlt'
          rw [byte_at R k hlt hlt'] at this
          rw [beq_eq_false_iff_ne]
          intro e
          exact this (UInt8.toNat_inj.1 (by show _ = 46; omega))
        clear hlt'
        go_wp2_with fail
        go_roundw
        case rel => exact ⟨k + 1, by omega, rfl, rfl, by go_num, by first | rfl | trivial⟩
        case measure => simp [intOf]; omega
    · have hkR : d = R.size := by omega
      have HP := Lib.hid (show PartsAt s true false R E0 by rw [HE0.out]; exact PartsAt.none HCU.out (by rw [HD.out]; exact hkR))
      have hlti : ¬ (k : Int) < R.size := by omega
      have hP := HSt.out.box.1
      have hB := HSt.out.below
      have hFz : E0.size ≤ 60 := by rw [HE0.out]; decide
      cases hdw : digsB R.data.toList with
      | false =>
        go_wp2_with fail
        refine (kDigits R _ (by omega)).mono ?_
        rintro _ _ ⟨rfl, rfl⟩
        rw [hdw]
        have HE := Lib.hid (show frE s = fraE ⟨#[]⟩ ⟨#[]⟩ 3 from frE_bad (by rw [HP.out.isd, goodW_no hdw]; rfl))
        clear HP hdw
        obtain ⟨c4, c5, c6, c7⟩ := hP.cells
        go_wp2_with fail
        obtain ⟨k0, k1, _, _⟩ := (hP.put ⟨#[]⟩ ⟨#[]⟩).cells
        exact bodyPost_ret (v := fraE ⟨#[]⟩ ⟨#[]⟩ 3) (by simp [results, Tryz.results92, go_sem, k0, k1]) rfl ⟨by rw [HE.out], below_put hB (Nat.le_refl _) _ _⟩
      | true =>
        have HDW := Lib.hid hdw
        by_cases hw1 : 1 < R.size
        · have hw0 : 0 < R.size := by omega
          by_cases h48 : ((R[0]'hw0).toNat : Int) = 48
          · have HZ := Lib.hid (show isDecS s = false by rw [HP.out.isd, goodW_zero hw1 h48]; rfl)
            have hw1i : (1 : Int) < R.size := by omega
            clear hdw
            go_wp2_with fail
            refine (kDigits R _ (by omega)).mono ?_
            rintro _ _ ⟨rfl, rfl⟩
            rw [HDW.out]
            have HE := Lib.hid (show frE s = fraE ⟨#[]⟩ ⟨#[]⟩ 3 from frE_bad (by exact HZ.out))
            clear HP HDW
            obtain ⟨c4, c5, c6, c7⟩ := hP.cells
            go_wp2_with fail
            obtain ⟨k0, k1, _, _⟩ := (hP.put ⟨#[]⟩ ⟨#[]⟩).cells
            exact bodyPost_ret (v := fraE ⟨#[]⟩ ⟨#[]⟩ 3) (by simp [results, Tryz.results92, go_sem, k0, k1]) rfl ⟨by rw [HE.out], below_put hB (Nat.le_refl _) _ _⟩
          · have hgd : Num.goodW R.data.toList = true := goodW_yes hdw (.inr ⟨hw1, h48⟩)
            have hw1i : (1 : Int) < R.size := by omega
            have h48b : (((R[0]'hw0).toNat : Int) == 48) = false := by simpa using h48
            clear hdw
            have HGW := Lib.hid (hgd)
            obtain ⟨M, hM⟩ : ∃ M, Num.num (R.data.toList ++ E0.data.toList) = M := ⟨_, rfl⟩
            have hda := digits_all (W := R) (F := E0) HDW.out (.inl HE0.out)
            have hvj : vS (R ++ E0) = (M : Int) := by unfold vS; rw [Num.val_digits hda, ByteArray.data_append, Array.toList_append, hM]
            have hmc : Cap 120 (M : Int) := by rw [← hvj]; exact Cap.of (s := R ++ E0) (by rw [ByteArray.size_append]; omega) rfl
            obtain ⟨m, hm⟩ : ∃ m, cS (M : Int) = m := ⟨_, rfl⟩
            have hms : m.size ≤ 122 := by rw [← hm]; have := cS_size hmc; omega
            have HC := Lib.hid (show ∀ Z, Calls Tryz.prog 81 #[.string (R ++ E0)] Z fun e w' => e = .returned (.string m) ∧ Z = w' from fun Z => by rw [← hm, ← hvj]; exact rCanonical_any _ Z (by rw [ByteArray.size_append]; omega))
            have hbj : ¬ 9223372036854775807 < R.size + E0.size := by omega
            have hbs : ¬ 9223372036854775807 < 1 + m.size := by omega
            have hme : m.toList.isEmpty = decide ((M : Int) = 0) := by rw [← hm]; exact eq_nil _
            by_cases hM0 : M = 0
            · have hmz : m.toList.isEmpty = true := by rw [hme, decide_eq_true_eq]; omega
              clear hme hms hmc hvj hda hm
              have HMZ := Lib.hid hmz
              clear hmz
              have HZ := Lib.hid (show isDecS s = false by rw [HP.out.isd, hM, hM0]; simp)
              clear hM HGW
              go_wp2_with fail
              refine (kDigits R _ (by omega)).mono ?_
              rintro _ _ ⟨rfl, rfl⟩
              rw [HDW.out]
              go_wp2_with fail
              refine (HC.out _).mono ?_
              rintro _ _ ⟨rfl, rfl⟩
              have hmz := HMZ.out
              have HE := Lib.hid (show frE s = fraE ⟨#[]⟩ ⟨#[]⟩ 3 from frE_bad (by exact HZ.out))
              clear HP HC hbj hbs
              obtain ⟨c4, c5, c6, c7⟩ := hP.cells
              go_wp2_with fail
              obtain ⟨k0, k1, _, _⟩ := (hP.put ⟨#[]⟩ ⟨#[]⟩).cells
              exact bodyPost_ret (v := fraE ⟨#[]⟩ ⟨#[]⟩ 3) (by simp [results, Tryz.results92, go_sem, k0, k1]) rfl ⟨by rw [HE.out], below_put hB (Nat.le_refl _) _ _⟩
            · have hmz : m.toList.isEmpty = false := by rw [hme, decide_eq_false_iff_not]; omega
              clear hme
              have hisd : isDecS s = true := by rw [HP.out.isd, HGW.out, hM]; simp; omega
              have hun : unitsD s = -(M : Int) := by rw [HP.out.un, hM]; rfl
              have hpl := HP.out.pl
              have hFs : E0.size ≤ 60 := by omega
              obtain ⟨x, hx⟩ : ∃ x, low (unitsD s, (10 : Int) ^ placesD s) = x := ⟨_, rfl⟩
              have HE := Lib.hid (show frE s = fraE (cS x.1) (cD x.2) 0 by rw [frE_ok hisd, hx])
              have HN := Lib.hid (show Ret 127 #[.string ((⟨#[45]⟩ : ByteArray) ++ m), .string (cS ((10 : Int) ^ E0.size))] (fraE (cS x.1) (cD x.2) 0) from fun Z hZ => by
                have h := qNew_any (n := (⟨#[45]⟩ : ByteArray) ++ m) (d := cS ((10 : Int) ^ E0.size)) (x := unitsD s) (y := (10 : Int) ^ E0.size) Z hZ (by rw [ByteArray.size_append]; show 1 + m.size ≤ 850; omega) (by have := tens_size E0.size; omega) (by rw [hun, ← hm, minus_val hM0]; exact vS_cS _) (vS_cS _) (by have := Num.pow10 E0.size; omega)
                rw [redS_pow, ← hpl, hx] at h
                rw [hpl] at h
                exact h)
              clear hisd hun hx HP HGW hM hda hvj hmc hm hms hpl hM0
              have HFS := Lib.hid hFs
              clear hFs
              have hS : StL w V [(w.heap.size, ⟨#[]⟩, ⟨#[]⟩)] := HSt.out
              go_wp2_with fail
              refine (kDigits R _ (by omega)).mono ?_
              rintro _ _ ⟨rfl, rfl⟩
              rw [HDW.out]
              go_wp2_with fail
              refine (HC.out _).mono ?_
              rintro _ _ ⟨rfl, rfl⟩
              go_wp2_with fail
              refine (kPower E0.size _ (by have := HFS.out; omega)).mono ?_
              rintro _ _ ⟨rfl, rfl⟩
              go_wp2_with fail
              refine (Ret.call HN.out _ hS.g).mono ?_
              rintro _ w1 ⟨rfl, hB1⟩
              replace hS := hS.next hB1
              clear hB1 hP
              go_upto_region 20 with fail
              obtain ⟨b3, hb3⟩ : ∃ b, b = w1.heap.size := ⟨_, rfl⟩
              obtain ⟨V3, hV3⟩ : ∃ V, V = w1.alloc (.cells #[.string (cS x.1), .string (cD x.2)] 59) := ⟨_, rfl⟩
              have hT : StL w V3 [(b3, cS x.1, cD x.2), (w.heap.size, ⟨#[]⟩, ⟨#[]⟩)] := by rw [hV3, hb3]; exact hS.alloc _ _
              rw [← hb3, ← hV3]
              clear hV3 hb3 hS
              have hT2 := StL.swap hT
              obtain ⟨p0, p1, _⟩ := hT.box
              obtain ⟨x0, y0, _, _⟩ := p0.cells
              obtain ⟨x1, y1, z1, t1⟩ := p1.cells
              go_wp2_with fail
              have hT3 := StL.fill hG hT2 (cS x.1) (cD x.2)
              obtain ⟨k0, k1, _, _⟩ := hT3.box.1.cells
              exact bodyPost_ret (v := fraE (cS x.1) (cD x.2) 0) (by simp [results, Tryz.results92, go_sem, k0, k1]) rfl ⟨by rw [HE.out], hT3.below⟩
        · have hgd : Num.goodW R.data.toList = true := goodW_yes hdw (.inl hw1)
          have hw1i : ¬ (1 : Int) < R.size := by omega
          clear hdw
          have HGW := Lib.hid (hgd)
          obtain ⟨M, hM⟩ : ∃ M, Num.num (R.data.toList ++ E0.data.toList) = M := ⟨_, rfl⟩
          have hda := digits_all (W := R) (F := E0) HDW.out (.inl HE0.out)
          have hvj : vS (R ++ E0) = (M : Int) := by unfold vS; rw [Num.val_digits hda, ByteArray.data_append, Array.toList_append, hM]
          have hmc : Cap 120 (M : Int) := by rw [← hvj]; exact Cap.of (s := R ++ E0) (by rw [ByteArray.size_append]; omega) rfl
          obtain ⟨m, hm⟩ : ∃ m, cS (M : Int) = m := ⟨_, rfl⟩
          have hms : m.size ≤ 122 := by rw [← hm]; have := cS_size hmc; omega
          have HC := Lib.hid (show ∀ Z, Calls Tryz.prog 81 #[.string (R ++ E0)] Z fun e w' => e = .returned (.string m) ∧ Z = w' from fun Z => by rw [← hm, ← hvj]; exact rCanonical_any _ Z (by rw [ByteArray.size_append]; omega))
          have hbj : ¬ 9223372036854775807 < R.size + E0.size := by omega
          have hbs : ¬ 9223372036854775807 < 1 + m.size := by omega
          have hme : m.toList.isEmpty = decide ((M : Int) = 0) := by rw [← hm]; exact eq_nil _
          by_cases hM0 : M = 0
          · have hmz : m.toList.isEmpty = true := by rw [hme, decide_eq_true_eq]; omega
            clear hme hms hmc hvj hda hm
            have HMZ := Lib.hid hmz
            clear hmz
            have HZ := Lib.hid (show isDecS s = false by rw [HP.out.isd, hM, hM0]; simp)
            clear hM HGW
            go_wp2_with fail
            refine (kDigits R _ (by omega)).mono ?_
            rintro _ _ ⟨rfl, rfl⟩
            rw [HDW.out]
            go_wp2_with fail
            refine (HC.out _).mono ?_
            rintro _ _ ⟨rfl, rfl⟩
            have hmz := HMZ.out
            have HE := Lib.hid (show frE s = fraE ⟨#[]⟩ ⟨#[]⟩ 3 from frE_bad (by exact HZ.out))
            clear HP HC hbj hbs
            obtain ⟨c4, c5, c6, c7⟩ := hP.cells
            go_wp2_with fail
            obtain ⟨k0, k1, _, _⟩ := (hP.put ⟨#[]⟩ ⟨#[]⟩).cells
            exact bodyPost_ret (v := fraE ⟨#[]⟩ ⟨#[]⟩ 3) (by simp [results, Tryz.results92, go_sem, k0, k1]) rfl ⟨by rw [HE.out], below_put hB (Nat.le_refl _) _ _⟩
          · have hmz : m.toList.isEmpty = false := by rw [hme, decide_eq_false_iff_not]; omega
            clear hme
            have hisd : isDecS s = true := by rw [HP.out.isd, HGW.out, hM]; simp; omega
            have hun : unitsD s = -(M : Int) := by rw [HP.out.un, hM]; rfl
            have hpl := HP.out.pl
            have hFs : E0.size ≤ 60 := by omega
            obtain ⟨x, hx⟩ : ∃ x, low (unitsD s, (10 : Int) ^ placesD s) = x := ⟨_, rfl⟩
            have HE := Lib.hid (show frE s = fraE (cS x.1) (cD x.2) 0 by rw [frE_ok hisd, hx])
            have HN := Lib.hid (show Ret 127 #[.string ((⟨#[45]⟩ : ByteArray) ++ m), .string (cS ((10 : Int) ^ E0.size))] (fraE (cS x.1) (cD x.2) 0) from fun Z hZ => by
              have h := qNew_any (n := (⟨#[45]⟩ : ByteArray) ++ m) (d := cS ((10 : Int) ^ E0.size)) (x := unitsD s) (y := (10 : Int) ^ E0.size) Z hZ (by rw [ByteArray.size_append]; show 1 + m.size ≤ 850; omega) (by have := tens_size E0.size; omega) (by rw [hun, ← hm, minus_val hM0]; exact vS_cS _) (vS_cS _) (by have := Num.pow10 E0.size; omega)
              rw [redS_pow, ← hpl, hx] at h
              rw [hpl] at h
              exact h)
            clear hisd hun hx HP HGW hM hda hvj hmc hm hms hpl hM0
            have HFS := Lib.hid hFs
            clear hFs
            have hS : StL w V [(w.heap.size, ⟨#[]⟩, ⟨#[]⟩)] := HSt.out
            go_wp2_with fail
            refine (kDigits R _ (by omega)).mono ?_
            rintro _ _ ⟨rfl, rfl⟩
            rw [HDW.out]
            go_wp2_with fail
            refine (HC.out _).mono ?_
            rintro _ _ ⟨rfl, rfl⟩
            go_wp2_with fail
            refine (kPower E0.size _ (by have := HFS.out; omega)).mono ?_
            rintro _ _ ⟨rfl, rfl⟩
            go_wp2_with fail
            refine (Ret.call HN.out _ hS.g).mono ?_
            rintro _ w1 ⟨rfl, hB1⟩
            replace hS := hS.next hB1
            clear hB1 hP
            go_upto_region 20 with fail
            obtain ⟨b3, hb3⟩ : ∃ b, b = w1.heap.size := ⟨_, rfl⟩
            obtain ⟨V3, hV3⟩ : ∃ V, V = w1.alloc (.cells #[.string (cS x.1), .string (cD x.2)] 59) := ⟨_, rfl⟩
            have hT : StL w V3 [(b3, cS x.1, cD x.2), (w.heap.size, ⟨#[]⟩, ⟨#[]⟩)] := by rw [hV3, hb3]; exact hS.alloc _ _
            rw [← hb3, ← hV3]
            clear hV3 hb3 hS
            have hT2 := StL.swap hT
            obtain ⟨p0, p1, _⟩ := hT.box
            obtain ⟨x0, y0, _, _⟩ := p0.cells
            obtain ⟨x1, y1, z1, t1⟩ := p1.cells
            go_wp2_with fail
            have hT3 := StL.fill hG hT2 (cS x.1) (cD x.2)
            obtain ⟨k0, k1, _, _⟩ := hT3.box.1.cells
            exact bodyPost_ret (v := fraE (cS x.1) (cD x.2) 0) (by simp [results, Tryz.results92, go_sem, k0, k1]) rfl ⟨by rw [HE.out], hT3.below⟩

end Go.Proofs.YtahnkmkmoalbhaaGreatDoor

/- The reference of layer 3: Fraction: a text without a sign. -/
namespace Go.Proofs.YtahnkmkmoalbhaaGreatDoor
open Go.RowKit Fra

set_option maxRecDepth 100000 in
set_option maxHeartbeats 8000000 in
theorem kFra_p {s : ByteArray} (hs : s.size ≤ 60) (hs0 : 0 < s.size) (hne : s.toList.isEmpty = false) (hb0 : (((s[0]'hs0).toNat : Int) == 45) = false) (hcut : Num.cut s.data.toList = (false, s.data.toList)) : Ret 92 #[.string s] (frE s) := by
  intro w hG
  have hRs : s.size ≤ 60 := hs
  obtain ⟨d, hd⟩ : ∃ d, Num.dot s.data.toList = d := ⟨_, rfl⟩
  have hdl : d ≤ s.size := by rw [← hd, ← size_toList]; exact Num.dot_le _
  obtain ⟨W0, hW0⟩ : ∃ W0, W0 = w.alloc (.cells #[.string ⟨#[]⟩, .string ⟨#[]⟩] 59) := ⟨_, rfl⟩
  have hS0 : StL w W0 [(w.heap.size, ⟨#[]⟩, ⟨#[]⟩)] := by rw [hW0]; exact StL.one hG _ _
  have hsz : ¬ (65536 : Int) < s.size := by omega
  have HD := Lib.hid hd
  have HCU := Lib.hid hcut
  clear hd hcut
  go_enter Tryz.func92, Tryz.ntmps92
  go_wp2_with fail
  rw [← hW0]
  clear hW0
  obtain ⟨V, hV⟩ : ∃ V, V = W0 := ⟨_, rfl⟩
  have hS : StL w V [(w.heap.size, ⟨#[]⟩, ⟨#[]⟩)] := by rw [hV]; exact hS0
  rw [← hV]
  clear hV hS0
  obtain ⟨E0, hE0⟩ : ∃ F : ByteArray, F = ⟨#[]⟩ := ⟨_, rfl⟩
  have HE0 := Lib.hid hE0
  clear hE0
  have HSt := Lib.hid hS
  clear hS
  go_loopw [6, 7, 8] (fun wv fv iv wr => ∃ k : Nat, k ≤ d ∧ wv = .string s ∧ fv = .string E0 ∧ iv = .int .i64 (k : Int) ∧ V = wr) (fun _ _ iv _ => s.size - (intOf iv).toNat)
  case atStart => exact ⟨0, Nat.zero_le _, rfl, by rw [HE0.out], rfl, rfl⟩
  case round =>
    obtain ⟨k, hk, rfl, rfl, rfl, rfl⟩ := hrel
    by_cases hlt : k < s.size
    · have hlti : (k : Int) < s.size := by omega
      have hlt' : k < s.data.toList.length := by rw [size_toList]; exact hlt
      by_cases hkd : k = d
      · have h46 : ((s[k]'hlt).toNat : Int) = 46 := by rw [← byte_at s k hlt hlt', Num.dot_is _ k (by rw [HD.out]; exact hkd) hlt']; rfl
        subst hkd
        clear hlt' hk
        obtain ⟨W, hW⟩ : ∃ W, s.extract 0 k = W := ⟨_, rfl⟩
        obtain ⟨F, hF⟩ : ∃ F, s.extract (k + 1) s.size = F := ⟨_, rfl⟩
        have HP := Lib.hid (PartsAt.some HCU.out HD.out hlt hW hF)
        have hWs : W.size ≤ 60 := by rw [← hW, ByteArray.size_extract]; omega
        have hFz : F.size ≤ 60 := by rw [← hF, ByteArray.size_extract]; omega
        have hkw : IntKind.i64.wrap ((k : Int) + 1) = (k : Int) + 1 := IntWalk.i64_in _ (by omega)
        have hk1 : (k : Int) + 1 ≤ s.size := by omega
        have hk2 : (k : Int) ≤ s.size := by omega
        go_wp2_with fail
        go_region
        clear hkw hk1 hk2 h46 hW hF hlti hlt hdl
        obtain ⟨U, hU⟩ : ∃ U, U = V.drew := ⟨_, rfl⟩
        have HSt2 := Lib.hid (show StL w U [(w.heap.size, ⟨#[]⟩, ⟨#[]⟩)] by rw [hU]; exact HSt.out.drew)
        rw [← hU]
        clear hU HSt
        have HSt := HSt2
        clear HSt2
        have hP := HSt.out.box.1
        have hB := HSt.out.below
        cases hdf : digsB F.data.toList with
        | false =>
          go_wp2_with fail
          refine (kDigits F _ (by omega)).mono ?_
          rintro _ _ ⟨rfl, rfl⟩
          rw [hdf]
          have HE := Lib.hid (show frE s = fraE ⟨#[]⟩ ⟨#[]⟩ 3 from frE_bad (by rw [HP.out.isd, hdf]; cases Num.goodW W.data.toList <;> rfl))
          clear HP 
          obtain ⟨c4, c5, c6, c7⟩ := hP.cells
          go_wp2_with fail
          obtain ⟨k0, k1, _, _⟩ := (hP.put ⟨#[]⟩ ⟨#[]⟩).cells
          exact bodyPost_ret (v := fraE ⟨#[]⟩ ⟨#[]⟩ 3) (by simp [results, Tryz.results92, go_sem, k0, k1]) rfl ⟨by rw [HE.out], below_put hB (Nat.le_refl _) _ _⟩
        | true =>
          have HDF := Lib.hid hdf
          go_wp2_with fail
          refine (kDigits F _ (by omega)).mono ?_
          rintro _ _ ⟨rfl, rfl⟩
          rw [hdf]
          clear hdf
          cases hdw : digsB W.data.toList with
          | false =>
            go_wp2_with fail
            refine (kDigits W _ (by omega)).mono ?_
            rintro _ _ ⟨rfl, rfl⟩
            rw [hdw]
            have HE := Lib.hid (show frE s = fraE ⟨#[]⟩ ⟨#[]⟩ 3 from frE_bad (by rw [HP.out.isd, goodW_no hdw]; rfl))
            clear HP hdw
            obtain ⟨c4, c5, c6, c7⟩ := hP.cells
            go_wp2_with fail
            obtain ⟨k0, k1, _, _⟩ := (hP.put ⟨#[]⟩ ⟨#[]⟩).cells
            exact bodyPost_ret (v := fraE ⟨#[]⟩ ⟨#[]⟩ 3) (by simp [results, Tryz.results92, go_sem, k0, k1]) rfl ⟨by rw [HE.out], below_put hB (Nat.le_refl _) _ _⟩
          | true =>
            have HDW := Lib.hid hdw
            by_cases hw1 : 1 < W.size
            · have hw0 : 0 < W.size := by omega
              by_cases h48 : ((W[0]'hw0).toNat : Int) = 48
              · have HZ := Lib.hid (show isDecS s = false by rw [HP.out.isd, goodW_zero hw1 h48]; rfl)
                have hw1i : (1 : Int) < W.size := by omega
                clear hdw
                go_wp2_with fail
                refine (kDigits W _ (by omega)).mono ?_
                rintro _ _ ⟨rfl, rfl⟩
                rw [HDW.out]
                have HE := Lib.hid (show frE s = fraE ⟨#[]⟩ ⟨#[]⟩ 3 from frE_bad (by exact HZ.out))
                clear HP HDW
                obtain ⟨c4, c5, c6, c7⟩ := hP.cells
                go_wp2_with fail
                obtain ⟨k0, k1, _, _⟩ := (hP.put ⟨#[]⟩ ⟨#[]⟩).cells
                exact bodyPost_ret (v := fraE ⟨#[]⟩ ⟨#[]⟩ 3) (by simp [results, Tryz.results92, go_sem, k0, k1]) rfl ⟨by rw [HE.out], below_put hB (Nat.le_refl _) _ _⟩
              · have hgd : Num.goodW W.data.toList = true := goodW_yes hdw (.inr ⟨hw1, h48⟩)
                have hw1i : (1 : Int) < W.size := by omega
                have h48b : (((W[0]'hw0).toNat : Int) == 48) = false := by simpa using h48
                clear hdw
                have HGW := Lib.hid (hgd)
                obtain ⟨M, hM⟩ : ∃ M, Num.num (W.data.toList ++ F.data.toList) = M := ⟨_, rfl⟩
                have hda := digits_all (W := W) (F := F) HDW.out (.inr HDF.out)
                have hvj : vS (W ++ F) = (M : Int) := by unfold vS; rw [Num.val_digits hda, ByteArray.data_append, Array.toList_append, hM]
                have hmc : Cap 120 (M : Int) := by rw [← hvj]; exact Cap.of (s := W ++ F) (by rw [ByteArray.size_append]; omega) rfl
                obtain ⟨m, hm⟩ : ∃ m, cS (M : Int) = m := ⟨_, rfl⟩
                have hms : m.size ≤ 122 := by rw [← hm]; have := cS_size hmc; omega
                have HC := Lib.hid (show ∀ Z, Calls Tryz.prog 81 #[.string (W ++ F)] Z fun e w' => e = .returned (.string m) ∧ Z = w' from fun Z => by rw [← hm, ← hvj]; exact rCanonical_any _ Z (by rw [ByteArray.size_append]; omega))
                have hbj : ¬ 9223372036854775807 < W.size + F.size := by omega
                have hbs : ¬ 9223372036854775807 < 0 + m.size := by omega
                have hme : m.toList.isEmpty = decide ((M : Int) = 0) := by rw [← hm]; exact eq_nil _
                clear hme
                have hisd : isDecS s = true := by rw [HP.out.isd, HGW.out, hM]; rw [HDF.out]; rfl
                have hun : unitsD s = (M : Int) := by rw [HP.out.un, hM]; rfl
                have hpl := HP.out.pl
                have hFs : F.size ≤ 60 := by omega
                obtain ⟨x, hx⟩ : ∃ x, low (unitsD s, (10 : Int) ^ placesD s) = x := ⟨_, rfl⟩
                have HE := Lib.hid (show frE s = fraE (cS x.1) (cD x.2) 0 by rw [frE_ok hisd, hx])
                have HN := Lib.hid (show Ret 127 #[.string ((⟨#[]⟩ : ByteArray) ++ m), .string (cS ((10 : Int) ^ F.size))] (fraE (cS x.1) (cD x.2) 0) from fun Z hZ => by
                  have h := qNew_any (n := (⟨#[]⟩ : ByteArray) ++ m) (d := cS ((10 : Int) ^ F.size)) (x := unitsD s) (y := (10 : Int) ^ F.size) Z hZ (by rw [ByteArray.size_append]; show 0 + m.size ≤ 850; omega) (by have := tens_size F.size; omega) (by rw [hun, ← hm, nil_app]; exact vS_cS _) (vS_cS _) (by have := Num.pow10 F.size; omega)
                  rw [redS_pow, ← hpl, hx] at h
                  rw [hpl] at h
                  exact h)
                clear hisd hun hx HP HGW hM hda hvj hmc hm hms hpl
                have HFS := Lib.hid hFs
                clear hFs
                have hS : StL w U [(w.heap.size, ⟨#[]⟩, ⟨#[]⟩)] := HSt.out
                go_wp2_with fail
                refine (kDigits W _ (by omega)).mono ?_
                rintro _ _ ⟨rfl, rfl⟩
                rw [HDW.out]
                go_wp2_with fail
                refine (HC.out _).mono ?_
                rintro _ _ ⟨rfl, rfl⟩
                go_wp2_with fail
                refine (kPower F.size _ (by have := HFS.out; omega)).mono ?_
                rintro _ _ ⟨rfl, rfl⟩
                go_wp2_with fail
                refine (Ret.call HN.out _ hS.g).mono ?_
                rintro _ w1 ⟨rfl, hB1⟩
                replace hS := hS.next hB1
                clear hB1 hP
                go_upto_region 20 with fail
                obtain ⟨b3, hb3⟩ : ∃ b, b = w1.heap.size := ⟨_, rfl⟩
                obtain ⟨V3, hV3⟩ : ∃ V, V = w1.alloc (.cells #[.string (cS x.1), .string (cD x.2)] 59) := ⟨_, rfl⟩
                have hT : StL w V3 [(b3, cS x.1, cD x.2), (w.heap.size, ⟨#[]⟩, ⟨#[]⟩)] := by rw [hV3, hb3]; exact hS.alloc _ _
                rw [← hb3, ← hV3]
                clear hV3 hb3 hS
                have hT2 := StL.swap hT
                obtain ⟨p0, p1, _⟩ := hT.box
                obtain ⟨x0, y0, _, _⟩ := p0.cells
                obtain ⟨x1, y1, z1, t1⟩ := p1.cells
                go_wp2_with fail
                have hT3 := StL.fill hG hT2 (cS x.1) (cD x.2)
                obtain ⟨k0, k1, _, _⟩ := hT3.box.1.cells
                exact bodyPost_ret (v := fraE (cS x.1) (cD x.2) 0) (by simp [results, Tryz.results92, go_sem, k0, k1]) rfl ⟨by rw [HE.out], hT3.below⟩
            · have hgd : Num.goodW W.data.toList = true := goodW_yes hdw (.inl hw1)
              have hw1i : ¬ (1 : Int) < W.size := by omega
              clear hdw
              have HGW := Lib.hid (hgd)
              obtain ⟨M, hM⟩ : ∃ M, Num.num (W.data.toList ++ F.data.toList) = M := ⟨_, rfl⟩
              have hda := digits_all (W := W) (F := F) HDW.out (.inr HDF.out)
              have hvj : vS (W ++ F) = (M : Int) := by unfold vS; rw [Num.val_digits hda, ByteArray.data_append, Array.toList_append, hM]
              have hmc : Cap 120 (M : Int) := by rw [← hvj]; exact Cap.of (s := W ++ F) (by rw [ByteArray.size_append]; omega) rfl
              obtain ⟨m, hm⟩ : ∃ m, cS (M : Int) = m := ⟨_, rfl⟩
              have hms : m.size ≤ 122 := by rw [← hm]; have := cS_size hmc; omega
              have HC := Lib.hid (show ∀ Z, Calls Tryz.prog 81 #[.string (W ++ F)] Z fun e w' => e = .returned (.string m) ∧ Z = w' from fun Z => by rw [← hm, ← hvj]; exact rCanonical_any _ Z (by rw [ByteArray.size_append]; omega))
              have hbj : ¬ 9223372036854775807 < W.size + F.size := by omega
              have hbs : ¬ 9223372036854775807 < 0 + m.size := by omega
              have hme : m.toList.isEmpty = decide ((M : Int) = 0) := by rw [← hm]; exact eq_nil _
              clear hme
              have hisd : isDecS s = true := by rw [HP.out.isd, HGW.out, hM]; rw [HDF.out]; rfl
              have hun : unitsD s = (M : Int) := by rw [HP.out.un, hM]; rfl
              have hpl := HP.out.pl
              have hFs : F.size ≤ 60 := by omega
              obtain ⟨x, hx⟩ : ∃ x, low (unitsD s, (10 : Int) ^ placesD s) = x := ⟨_, rfl⟩
              have HE := Lib.hid (show frE s = fraE (cS x.1) (cD x.2) 0 by rw [frE_ok hisd, hx])
              have HN := Lib.hid (show Ret 127 #[.string ((⟨#[]⟩ : ByteArray) ++ m), .string (cS ((10 : Int) ^ F.size))] (fraE (cS x.1) (cD x.2) 0) from fun Z hZ => by
                have h := qNew_any (n := (⟨#[]⟩ : ByteArray) ++ m) (d := cS ((10 : Int) ^ F.size)) (x := unitsD s) (y := (10 : Int) ^ F.size) Z hZ (by rw [ByteArray.size_append]; show 0 + m.size ≤ 850; omega) (by have := tens_size F.size; omega) (by rw [hun, ← hm, nil_app]; exact vS_cS _) (vS_cS _) (by have := Num.pow10 F.size; omega)
                rw [redS_pow, ← hpl, hx] at h
                rw [hpl] at h
                exact h)
              clear hisd hun hx HP HGW hM hda hvj hmc hm hms hpl
              have HFS := Lib.hid hFs
              clear hFs
              have hS : StL w U [(w.heap.size, ⟨#[]⟩, ⟨#[]⟩)] := HSt.out
              go_wp2_with fail
              refine (kDigits W _ (by omega)).mono ?_
              rintro _ _ ⟨rfl, rfl⟩
              rw [HDW.out]
              go_wp2_with fail
              refine (HC.out _).mono ?_
              rintro _ _ ⟨rfl, rfl⟩
              go_wp2_with fail
              refine (kPower F.size _ (by have := HFS.out; omega)).mono ?_
              rintro _ _ ⟨rfl, rfl⟩
              go_wp2_with fail
              refine (Ret.call HN.out _ hS.g).mono ?_
              rintro _ w1 ⟨rfl, hB1⟩
              replace hS := hS.next hB1
              clear hB1 hP
              go_upto_region 20 with fail
              obtain ⟨b3, hb3⟩ : ∃ b, b = w1.heap.size := ⟨_, rfl⟩
              obtain ⟨V3, hV3⟩ : ∃ V, V = w1.alloc (.cells #[.string (cS x.1), .string (cD x.2)] 59) := ⟨_, rfl⟩
              have hT : StL w V3 [(b3, cS x.1, cD x.2), (w.heap.size, ⟨#[]⟩, ⟨#[]⟩)] := by rw [hV3, hb3]; exact hS.alloc _ _
              rw [← hb3, ← hV3]
              clear hV3 hb3 hS
              have hT2 := StL.swap hT
              obtain ⟨p0, p1, _⟩ := hT.box
              obtain ⟨x0, y0, _, _⟩ := p0.cells
              obtain ⟨x1, y1, z1, t1⟩ := p1.cells
              go_wp2_with fail
              have hT3 := StL.fill hG hT2 (cS x.1) (cD x.2)
              obtain ⟨k0, k1, _, _⟩ := hT3.box.1.cells
              exact bodyPost_ret (v := fraE (cS x.1) (cD x.2) 0) (by simp [results, Tryz.results92, go_sem, k0, k1]) rfl ⟨by rw [HE.out], hT3.below⟩
      · have h46 : (((s[k]'hlt).toNat : Int) == 46) = false := by
          have := Num.dot_ne s.data.toList k (by rw [HD.out]; omega) hlt'
          rw [byte_at s k hlt hlt'] at this
          rw [beq_eq_false_iff_ne]
          intro e
          exact this (UInt8.toNat_inj.1 (by show _ = 46; omega))
        clear hlt'
        go_wp2_with fail
        go_roundw
        case rel => exact ⟨k + 1, by omega, rfl, rfl, by go_num, by first | rfl | trivial⟩
        case measure => simp [intOf]; omega
    · have hkR : d = s.size := by omega
      have HP := Lib.hid (show PartsAt s false false s E0 by rw [HE0.out]; exact PartsAt.none HCU.out (by rw [HD.out]; exact hkR))
      have hlti : ¬ (k : Int) < s.size := by omega
      have hP := HSt.out.box.1
      have hB := HSt.out.below
      have hFz : E0.size ≤ 60 := by rw [HE0.out]; decide
      cases hdw : digsB s.data.toList with
      | false =>
        go_wp2_with fail
        refine (kDigits s _ (by omega)).mono ?_
        rintro _ _ ⟨rfl, rfl⟩
        rw [hdw]
        have HE := Lib.hid (show frE s = fraE ⟨#[]⟩ ⟨#[]⟩ 3 from frE_bad (by rw [HP.out.isd, goodW_no hdw]; rfl))
        clear HP hdw
        obtain ⟨c4, c5, c6, c7⟩ := hP.cells
        go_wp2_with fail
        obtain ⟨k0, k1, _, _⟩ := (hP.put ⟨#[]⟩ ⟨#[]⟩).cells
        exact bodyPost_ret (v := fraE ⟨#[]⟩ ⟨#[]⟩ 3) (by simp [results, Tryz.results92, go_sem, k0, k1]) rfl ⟨by rw [HE.out], below_put hB (Nat.le_refl _) _ _⟩
      | true =>
        have HDW := Lib.hid hdw
        by_cases hw1 : 1 < s.size
        · have hw0 : 0 < s.size := by omega
          by_cases h48 : ((s[0]'hw0).toNat : Int) = 48
          · have HZ := Lib.hid (show isDecS s = false by rw [HP.out.isd, goodW_zero hw1 h48]; rfl)
            have hw1i : (1 : Int) < s.size := by omega
            clear hdw
            go_wp2_with fail
            refine (kDigits s _ (by omega)).mono ?_
            rintro _ _ ⟨rfl, rfl⟩
            rw [HDW.out]
            have HE := Lib.hid (show frE s = fraE ⟨#[]⟩ ⟨#[]⟩ 3 from frE_bad (by exact HZ.out))
            clear HP HDW
            obtain ⟨c4, c5, c6, c7⟩ := hP.cells
            go_wp2_with fail
            obtain ⟨k0, k1, _, _⟩ := (hP.put ⟨#[]⟩ ⟨#[]⟩).cells
            exact bodyPost_ret (v := fraE ⟨#[]⟩ ⟨#[]⟩ 3) (by simp [results, Tryz.results92, go_sem, k0, k1]) rfl ⟨by rw [HE.out], below_put hB (Nat.le_refl _) _ _⟩
          · have hgd : Num.goodW s.data.toList = true := goodW_yes hdw (.inr ⟨hw1, h48⟩)
            have hw1i : (1 : Int) < s.size := by omega
            have h48b : (((s[0]'hw0).toNat : Int) == 48) = false := by simpa using h48
            clear hdw
            have HGW := Lib.hid (hgd)
            obtain ⟨M, hM⟩ : ∃ M, Num.num (s.data.toList ++ E0.data.toList) = M := ⟨_, rfl⟩
            have hda := digits_all (W := s) (F := E0) HDW.out (.inl HE0.out)
            have hvj : vS (s ++ E0) = (M : Int) := by unfold vS; rw [Num.val_digits hda, ByteArray.data_append, Array.toList_append, hM]
            have hmc : Cap 120 (M : Int) := by rw [← hvj]; exact Cap.of (s := s ++ E0) (by rw [ByteArray.size_append]; omega) rfl
            obtain ⟨m, hm⟩ : ∃ m, cS (M : Int) = m := ⟨_, rfl⟩
            have hms : m.size ≤ 122 := by rw [← hm]; have := cS_size hmc; omega
            have HC := Lib.hid (show ∀ Z, Calls Tryz.prog 81 #[.string (s ++ E0)] Z fun e w' => e = .returned (.string m) ∧ Z = w' from fun Z => by rw [← hm, ← hvj]; exact rCanonical_any _ Z (by rw [ByteArray.size_append]; omega))
            have hbj : ¬ 9223372036854775807 < s.size + E0.size := by omega
            have hbs : ¬ 9223372036854775807 < 0 + m.size := by omega
            have hme : m.toList.isEmpty = decide ((M : Int) = 0) := by rw [← hm]; exact eq_nil _
            clear hme
            have hisd : isDecS s = true := by rw [HP.out.isd, HGW.out, hM]; rfl
            have hun : unitsD s = (M : Int) := by rw [HP.out.un, hM]; rfl
            have hpl := HP.out.pl
            have hFs : E0.size ≤ 60 := by omega
            obtain ⟨x, hx⟩ : ∃ x, low (unitsD s, (10 : Int) ^ placesD s) = x := ⟨_, rfl⟩
            have HE := Lib.hid (show frE s = fraE (cS x.1) (cD x.2) 0 by rw [frE_ok hisd, hx])
            have HN := Lib.hid (show Ret 127 #[.string ((⟨#[]⟩ : ByteArray) ++ m), .string (cS ((10 : Int) ^ E0.size))] (fraE (cS x.1) (cD x.2) 0) from fun Z hZ => by
              have h := qNew_any (n := (⟨#[]⟩ : ByteArray) ++ m) (d := cS ((10 : Int) ^ E0.size)) (x := unitsD s) (y := (10 : Int) ^ E0.size) Z hZ (by rw [ByteArray.size_append]; show 0 + m.size ≤ 850; omega) (by have := tens_size E0.size; omega) (by rw [hun, ← hm, nil_app]; exact vS_cS _) (vS_cS _) (by have := Num.pow10 E0.size; omega)
              rw [redS_pow, ← hpl, hx] at h
              rw [hpl] at h
              exact h)
            clear hisd hun hx HP HGW hM hda hvj hmc hm hms hpl
            have HFS := Lib.hid hFs
            clear hFs
            have hS : StL w V [(w.heap.size, ⟨#[]⟩, ⟨#[]⟩)] := HSt.out
            go_wp2_with fail
            refine (kDigits s _ (by omega)).mono ?_
            rintro _ _ ⟨rfl, rfl⟩
            rw [HDW.out]
            go_wp2_with fail
            refine (HC.out _).mono ?_
            rintro _ _ ⟨rfl, rfl⟩
            go_wp2_with fail
            refine (kPower E0.size _ (by have := HFS.out; omega)).mono ?_
            rintro _ _ ⟨rfl, rfl⟩
            go_wp2_with fail
            refine (Ret.call HN.out _ hS.g).mono ?_
            rintro _ w1 ⟨rfl, hB1⟩
            replace hS := hS.next hB1
            clear hB1 hP
            go_upto_region 20 with fail
            obtain ⟨b3, hb3⟩ : ∃ b, b = w1.heap.size := ⟨_, rfl⟩
            obtain ⟨V3, hV3⟩ : ∃ V, V = w1.alloc (.cells #[.string (cS x.1), .string (cD x.2)] 59) := ⟨_, rfl⟩
            have hT : StL w V3 [(b3, cS x.1, cD x.2), (w.heap.size, ⟨#[]⟩, ⟨#[]⟩)] := by rw [hV3, hb3]; exact hS.alloc _ _
            rw [← hb3, ← hV3]
            clear hV3 hb3 hS
            have hT2 := StL.swap hT
            obtain ⟨p0, p1, _⟩ := hT.box
            obtain ⟨x0, y0, _, _⟩ := p0.cells
            obtain ⟨x1, y1, z1, t1⟩ := p1.cells
            go_wp2_with fail
            have hT3 := StL.fill hG hT2 (cS x.1) (cD x.2)
            obtain ⟨k0, k1, _, _⟩ := hT3.box.1.cells
            exact bodyPost_ret (v := fraE (cS x.1) (cD x.2) 0) (by simp [results, Tryz.results92, go_sem, k0, k1]) rfl ⟨by rw [HE.out], hT3.below⟩
        · have hgd : Num.goodW s.data.toList = true := goodW_yes hdw (.inl hw1)
          have hw1i : ¬ (1 : Int) < s.size := by omega
          clear hdw
          have HGW := Lib.hid (hgd)
          obtain ⟨M, hM⟩ : ∃ M, Num.num (s.data.toList ++ E0.data.toList) = M := ⟨_, rfl⟩
          have hda := digits_all (W := s) (F := E0) HDW.out (.inl HE0.out)
          have hvj : vS (s ++ E0) = (M : Int) := by unfold vS; rw [Num.val_digits hda, ByteArray.data_append, Array.toList_append, hM]
          have hmc : Cap 120 (M : Int) := by rw [← hvj]; exact Cap.of (s := s ++ E0) (by rw [ByteArray.size_append]; omega) rfl
          obtain ⟨m, hm⟩ : ∃ m, cS (M : Int) = m := ⟨_, rfl⟩
          have hms : m.size ≤ 122 := by rw [← hm]; have := cS_size hmc; omega
          have HC := Lib.hid (show ∀ Z, Calls Tryz.prog 81 #[.string (s ++ E0)] Z fun e w' => e = .returned (.string m) ∧ Z = w' from fun Z => by rw [← hm, ← hvj]; exact rCanonical_any _ Z (by rw [ByteArray.size_append]; omega))
          have hbj : ¬ 9223372036854775807 < s.size + E0.size := by omega
          have hbs : ¬ 9223372036854775807 < 0 + m.size := by omega
          have hme : m.toList.isEmpty = decide ((M : Int) = 0) := by rw [← hm]; exact eq_nil _
          clear hme
          have hisd : isDecS s = true := by rw [HP.out.isd, HGW.out, hM]; rfl
          have hun : unitsD s = (M : Int) := by rw [HP.out.un, hM]; rfl
          have hpl := HP.out.pl
          have hFs : E0.size ≤ 60 := by omega
          obtain ⟨x, hx⟩ : ∃ x, low (unitsD s, (10 : Int) ^ placesD s) = x := ⟨_, rfl⟩
          have HE := Lib.hid (show frE s = fraE (cS x.1) (cD x.2) 0 by rw [frE_ok hisd, hx])
          have HN := Lib.hid (show Ret 127 #[.string ((⟨#[]⟩ : ByteArray) ++ m), .string (cS ((10 : Int) ^ E0.size))] (fraE (cS x.1) (cD x.2) 0) from fun Z hZ => by
            have h := qNew_any (n := (⟨#[]⟩ : ByteArray) ++ m) (d := cS ((10 : Int) ^ E0.size)) (x := unitsD s) (y := (10 : Int) ^ E0.size) Z hZ (by rw [ByteArray.size_append]; show 0 + m.size ≤ 850; omega) (by have := tens_size E0.size; omega) (by rw [hun, ← hm, nil_app]; exact vS_cS _) (vS_cS _) (by have := Num.pow10 E0.size; omega)
            rw [redS_pow, ← hpl, hx] at h
            rw [hpl] at h
            exact h)
          clear hisd hun hx HP HGW hM hda hvj hmc hm hms hpl
          have HFS := Lib.hid hFs
          clear hFs
          have hS : StL w V [(w.heap.size, ⟨#[]⟩, ⟨#[]⟩)] := HSt.out
          go_wp2_with fail
          refine (kDigits s _ (by omega)).mono ?_
          rintro _ _ ⟨rfl, rfl⟩
          rw [HDW.out]
          go_wp2_with fail
          refine (HC.out _).mono ?_
          rintro _ _ ⟨rfl, rfl⟩
          go_wp2_with fail
          refine (kPower E0.size _ (by have := HFS.out; omega)).mono ?_
          rintro _ _ ⟨rfl, rfl⟩
          go_wp2_with fail
          refine (Ret.call HN.out _ hS.g).mono ?_
          rintro _ w1 ⟨rfl, hB1⟩
          replace hS := hS.next hB1
          clear hB1 hP
          go_upto_region 20 with fail
          obtain ⟨b3, hb3⟩ : ∃ b, b = w1.heap.size := ⟨_, rfl⟩
          obtain ⟨V3, hV3⟩ : ∃ V, V = w1.alloc (.cells #[.string (cS x.1), .string (cD x.2)] 59) := ⟨_, rfl⟩
          have hT : StL w V3 [(b3, cS x.1, cD x.2), (w.heap.size, ⟨#[]⟩, ⟨#[]⟩)] := by rw [hV3, hb3]; exact hS.alloc _ _
          rw [← hb3, ← hV3]
          clear hV3 hb3 hS
          have hT2 := StL.swap hT
          obtain ⟨p0, p1, _⟩ := hT.box
          obtain ⟨x0, y0, _, _⟩ := p0.cells
          obtain ⟨x1, y1, z1, t1⟩ := p1.cells
          go_wp2_with fail
          have hT3 := StL.fill hG hT2 (cS x.1) (cD x.2)
          obtain ⟨k0, k1, _, _⟩ := hT3.box.1.cells
          exact bodyPost_ret (v := fraE (cS x.1) (cD x.2) 0) (by simp [results, Tryz.results92, go_sem, k0, k1]) rfl ⟨by rw [HE.out], hT3.below⟩

end Go.Proofs.YtahnkmkmoalbhaaGreatDoor
