/- The reference of layer 4: negative, Sum, check, Ideal, absolute: the walks. -/
import Derived.Test.YthhihdihkddakaaGreatDoorMSums
import Derived.Test.YthhihdihkddakaaGreatDoorAF
namespace Go.Proofs.YthhihdihkddakaaGreatDoor
open Go.RowKit Fra

set_option maxRecDepth 100000 in
set_option maxHeartbeats 8000000 in
theorem rNegative {s : ByteArray} {z : Int} (hs : s.size ≤ 4294967295) (hz : vS s = z) (w : World) :
    Calls Tryz.prog 60 #[.string s] w fun e w' => e = .returned (.bool (decide (z < 0))) ∧ w = w' := by
  obtain ⟨c, hc⟩ : ∃ c, cmp3 z 0 = c := ⟨_, rfl⟩
  have HD := Lib.hid (show decide (c < 0) = decide (z < 0) by rw [← hc]; exact cmp3_lt0 z)
  have HC := Lib.hid (qCmp w (by omega) (by decide) hz vS_nil hc)
  clear hc hz hs
  go_enter Tryz.func60, Tryz.ntmps60
  go_wp2_with fail
  refine HC.out.mono ?_
  rintro _ _ ⟨rfl, rfl⟩
  go_wp2_with fail
  go_ret
  exact ⟨by rw [HD.out]; simp, rfl⟩

/-- few numbers, not long -/
structure FitR (N : Nat) (s : Nat → ByteArray) : Prop where
  few : N ≤ 100
  size : ∀ i, i < N → (s i).size ≤ 200
theorem FitR.sum {N k : Nat} {s : Nat → ByteArray} (h : FitR N s) (hk : k ≤ N) : (cS (sumS s k)).size ≤ 301 := by
  have h1 := sumS_cap (s := s) (c := 200) (by decide) (k := k) (fun i hi => Cap.of (h.size i (by omega)) rfl)
  have := cS_size h1
  have := h.few
  omega

set_option maxRecDepth 100000 in
set_option maxHeartbeats 8000000 in
theorem rSumR (xa : Option Addr) (N cap : Nat) (s : Nat → ByteArray) (w : World) (hr : Rs w xa N s) (hf : FitR N s) :
    Calls Tryz.prog 57 #[.slice xa N cap] w (StrPost w (sumS s N)) := by
  have HR := Lib.hid hr
  have HF := Lib.hid hf
  have hlim := hf.few
  clear hr hf
  unfold StrPost
  go_enter Tryz.func57, Tryz.ntmps57
  go_wp2_with fail
  go_loopw [3, 4] (fun sv iv wr => ∃ k : Nat, k ≤ N ∧ iv = .int .i64 (k : Int) ∧ sv = .string (cS (sumS s k)) ∧ Hid (Below w.heap.size w wr)) (fun _ iv _ => N - (intOf iv).toNat)
  case atStart => exact ⟨0, Nat.zero_le _, rfl, by rw [sumS_zero, cS_zero], Lib.hid (Below.refl _ _)⟩
  case round =>
    obtain ⟨k, hk, rfl, rfl, HB⟩ := hrel
    by_cases hlt : k < N
    · obtain ⟨b, o, rfl, hb, hck⟩ := Rs.at (HR.out.belowAt HB.out (Nat.le_refl _)) hlt
      have hsz := HF.out.size k hlt
      have HA := Lib.hid (qAdd (z := sumS s (k + 1)) wr (show (cS (sumS s k)).size ≤ 1000 by have := HF.out.sum (k := k) (by omega); omega) (show (s k).size ≤ 1000 by omega) (vS_cS _) rfl (sumS_succ s k).symm)
      unfold StrPost at HA
      obtain ⟨sk, hsk⟩ : ∃ sk, s k = sk := ⟨_, rfl⟩
      rw [hsk] at hck HA
      have hw1 : IntKind.i64.wrap ((k : Int) + 1) = (k : Int) + 1 := IntWalk.i64_in _ (by omega)
      clear hsz hsk
      go_wp2_with fail
      refine HA.out.mono ?_
      rintro _ w2 ⟨rfl, hB2⟩
      have HB2 := Lib.hid (HB.out.trans (hB2.mono HB.out.size))
      clear hB2 HA HB
      go_wp2_with fail
      go_roundw
      case rel => exact ⟨k + 1, by omega, by simp, rfl, HB2⟩
      case measure => simp [intOf]; omega
    · obtain rfl : k = N := by omega
      go_wp2_with fail
      go_ret
      exact ⟨rfl, HB.out⟩

set_option maxRecDepth 100000 in
set_option maxHeartbeats 8000000 in
theorem rCk_zero (w : World) (t : ByteArray) (xa : Option Addr) (cap : Nat) :
    Calls Tryz.prog 62 #[.string t, .slice xa 0 cap] w fun e w' => e = .returned (.int .i64 11) ∧ Below w.heap.size w w' := by
  go_enter Tryz.func62, Tryz.ntmps62
  go_wp2_with fail
  go_ret
  exact ⟨rfl, Below.refl _ _⟩

set_option maxRecDepth 100000 in
set_option maxHeartbeats 8000000 in
theorem rCk_many (w : World) (t : ByteArray) (xa : Option Addr) (n cap : Nat) (h : 1000 < n) :
    Calls Tryz.prog 62 #[.string t, .slice xa n cap] w fun e w' => e = .returned (.int .i64 4) ∧ Below w.heap.size w w' := by
  have hi : (1000 : Int) < n := by omega
  have hb2 : ((n : Int) == 0) = false := by rw [beq_eq_false_iff_ne]; omega
  have hn0 : n ≠ 0 := by omega
  have hn1 : (n == 0) = false := by rw [beq_eq_false_iff_ne]; omega
  clear h
  go_enter Tryz.func62, Tryz.ntmps62
  go_wp2_with fail
  go_ret
  exact ⟨rfl, Below.refl _ _⟩

set_option maxRecDepth 100000 in
set_option maxHeartbeats 8000000 in
theorem rCk_t (w : World) (t : ByteArray) (xa : Option Addr) (n cap : Nat) (h0 : 0 < n) (h1 : n ≤ 1000) (ht : t.size ≤ 1000) (hc : isCan t = false) :
    Calls Tryz.prog 62 #[.string t, .slice xa n cap] w fun e w' => e = .returned (.int .i64 1) ∧ Below w.heap.size w w' := by
  have hi : ¬ (1000 : Int) < n := by omega
  have hb2 : ((n : Int) == 0) = false := by rw [beq_eq_false_iff_ne]; omega
  have hn0 : n ≠ 0 := by omega
  have hn1 : (n == 0) = false := by rw [beq_eq_false_iff_ne]; omega
  have HC := Lib.hid (rCheck_any t w (by omega))
  rw [show chk t = 1 by unfold chk; rw [hc]; rfl] at HC
  clear h0 h1 ht hc
  go_enter Tryz.func62, Tryz.ntmps62
  go_wp2_with fail
  refine HC.out.mono ?_
  rintro _ _ ⟨rfl, rfl⟩
  go_wp2_with fail
  go_ret
  exact ⟨rfl, Below.refl _ _⟩

set_option maxRecDepth 100000 in
set_option maxHeartbeats 8000000 in
theorem rCk_loop (w : World) (t : ByteArray) (xa : Option Addr) (n cap : Nat) (s : Nat → ByteArray) (hr : Rs w xa n s) (h0 : 0 < n) (h1 : n ≤ 100) (ht : t.size ≤ 1000) (hc : isCan t = true) (hf : FitR n s) (r : Int) (r1 : ∀ k, k < n → isCan (s k) = false ∨ vS (s k) < 0 → r = 1) (r2 : (∀ k, k < n → isCan (s k) = true ∧ 0 ≤ vS (s k)) → sumS s n = 0 → r = 10) (r3 : (∀ k, k < n → isCan (s k) = true ∧ 0 ≤ vS (s k)) → sumS s n ≠ 0 → r = 0) :
    Calls Tryz.prog 62 #[.string t, .slice xa n cap] w fun e w' => e = .returned (.int .i64 r) ∧ Below w.heap.size w w' := by
  have hi : ¬ (1000 : Int) < n := by omega
  have hb2 : ((n : Int) == 0) = false := by rw [beq_eq_false_iff_ne]; omega
  have hn0 : n ≠ 0 := by omega
  have hn1 : (n == 0) = false := by rw [beq_eq_false_iff_ne]; omega
  have HC := Lib.hid (rCheck_any t w (by omega))
  rw [show chk t = 0 by unfold chk; rw [hc]; rfl] at HC
  have HR := Lib.hid hr
  have HF := Lib.hid hf
  have HR1 := Lib.hid r1
  have HR2 := Lib.hid r2
  have HR3 := Lib.hid r3
  have HSM := Lib.hid (fun W hr => rSumR xa n cap s W hr hf)
  unfold StrPost at HSM
  clear hr h0 ht hc hf r1 r2 r3
  go_enter Tryz.func62, Tryz.ntmps62
  go_wp2_with fail
  refine HC.out.mono ?_
  rintro _ _ ⟨rfl, rfl⟩
  go_wp2_with fail
  go_loopw [5] (fun iv wr => ∃ k : Nat, k ≤ n ∧ iv = .int .i64 (k : Int) ∧ Hid (∀ i, i < k → isCan (s i) = true ∧ 0 ≤ vS (s i)) ∧ Hid (Below w.heap.size w wr)) (fun iv _ => n - (intOf iv).toNat)
  case atStart => exact ⟨0, Nat.zero_le _, rfl, Lib.hid (fun i hi => absurd hi (by omega)), Lib.hid (Below.refl _ _)⟩
  case round =>
    obtain ⟨k, hk, rfl, HA, HB⟩ := hrel
    by_cases hlt : k < n
    · obtain ⟨b, o, rfl, hb, hck⟩ := Rs.at (HR.out.belowAt HB.out (Nat.le_refl _)) hlt
      have hsz := HF.out.size k hlt
      have hw1 : IntKind.i64.wrap ((k : Int) + 1) = (k : Int) + 1 := IntWalk.i64_in _ (by omega)
      have HCK := Lib.hid (rCheck_any (s k) wr (by omega))
      have HNG := Lib.hid (rNegative (s := s k) (by omega) rfl wr)
      by_cases hcan : isCan (s k) = true
      · rw [show chk (s k) = 0 by unfold chk; rw [hcan]; rfl] at HCK
        by_cases hng : vS (s k) < 0
        · rw [decide_eq_true hng] at HNG
          have HE := Lib.hid (HR1.out k hlt (Or.inr hng))
          obtain ⟨sk, hsk⟩ : ∃ sk, s k = sk := ⟨_, rfl⟩
          rw [hsk] at hck HCK HNG
          clear hsz hsk hng hcan
          go_wp2_with fail
          refine HCK.out.mono ?_
          rintro _ _ ⟨rfl, rfl⟩
          go_wp2_with fail
          refine HNG.out.mono ?_
          rintro _ _ ⟨rfl, rfl⟩
          go_wp2_with fail
          go_ret
          exact ⟨by rw [HE.out]; rfl, HB.out⟩
        · rw [decide_eq_false hng] at HNG
          have HA2 := Lib.hid (show ∀ i, i < k + 1 → isCan (s i) = true ∧ 0 ≤ vS (s i) from fun i hi => by
            by_cases e : i = k
            · subst e; exact ⟨hcan, by omega⟩
            · exact HA.out i (by omega))
          obtain ⟨sk, hsk⟩ : ∃ sk, s k = sk := ⟨_, rfl⟩
          rw [hsk] at hck HCK HNG
          clear hsz hsk hng hcan
          go_wp2_with fail
          refine HCK.out.mono ?_
          rintro _ _ ⟨rfl, rfl⟩
          go_wp2_with fail
          refine HNG.out.mono ?_
          rintro _ _ ⟨rfl, rfl⟩
          go_wp2_with fail
          go_roundw
          case rel => exact ⟨k + 1, by omega, by simp, HA2, HB⟩
          case measure => simp [intOf]; omega
      · have hcan2 : isCan (s k) = false := by cases h : isCan (s k) <;> simp_all
        rw [show chk (s k) = 1 by unfold chk; rw [hcan2]; rfl] at HCK
        have HE := Lib.hid (HR1.out k hlt (Or.inl hcan2))
        obtain ⟨sk, hsk⟩ : ∃ sk, s k = sk := ⟨_, rfl⟩
        rw [hsk] at hck HCK
        clear hsz hsk hcan hcan2 HNG
        go_wp2_with fail
        refine HCK.out.mono ?_
        rintro _ _ ⟨rfl, rfl⟩
        go_wp2_with fail
        go_ret
        exact ⟨by rw [HE.out]; rfl, HB.out⟩
    · obtain rfl : k = n := by omega
      by_cases hz : sumS s k = 0
      · have HE := Lib.hid (HR2.out HA.out hz)
        rw [hz, cS_zero] at HSM
        clear hz
        go_wp2_with fail
        refine (HSM.out _ (HR.out.belowAt HB.out (Nat.le_refl _))).mono ?_
        rintro _ w2 ⟨rfl, hB⟩
        go_wp2_with fail
        go_ret
        exact ⟨by rw [HE.out]; rfl, HB.out.trans (hB.mono HB.out.size)⟩
      · have HE := Lib.hid (HR3.out HA.out hz)
        have hne := ne_nil_str (s := cS (sumS s k)) (fun e => hz (by rw [← vS_cS (sumS s k), e, vS_nil]))
        obtain ⟨u, hu⟩ : ∃ u, cS (sumS s k) = u := ⟨_, rfl⟩
        rw [hu] at HSM hne
        clear hz hu
        go_wp2_with fail
        refine (HSM.out _ (HR.out.belowAt HB.out (Nat.le_refl _))).mono ?_
        rintro _ w2 ⟨rfl, hB⟩
        go_wp2_with fail
        go_ret
        exact ⟨by rw [HE.out]; rfl, HB.out.trans (hB.mono HB.out.size)⟩

/-- few weights, not long -/
structure FitQ (n : Nat) (t : ByteArray) (s : Nat → ByteArray) : Prop where
  few : n ≤ 19 ∨ 1000 < n
  max : n ≤ 100000
  t1 : t.size ≤ 200
  size : n ≤ 1000 → ∀ i, i < n → (s i).size ≤ 200
theorem FitQ.fitW {n : Nat} {t : ByteArray} {s : Nat → ByteArray} (h : FitQ n t s) : FitW n t s := ⟨h.few, h.max, by have := h.t1; omega, fun hn i hi => by have := h.size hn i hi; omega⟩
theorem rCk (w : World) (t : ByteArray) (xa : Option Addr) (n cap : Nat) (s : Nat → ByteArray) (hr : Rs w xa n s) (hf : FitQ n t s) :
    Calls Tryz.prog 62 #[.string t, .slice xa n cap] w fun e w' => e = .returned (.int .i64 (weighE t n s)) ∧ Below w.heap.size w w' := by
  by_cases h0 : n = 0
  · subst h0
    unfold weighE
    rw [if_pos rfl]
    exact rCk_zero w t xa cap
  by_cases h1 : 1000 < n
  · unfold weighE
    rw [if_neg h0, if_pos h1]
    exact rCk_many w t xa n cap h1
  have hfew := hf.few
  have ht1 := hf.t1
  cases hc : isCan t with
  | false =>
    unfold weighE
    rw [if_neg h0, if_neg h1, if_pos (Or.inl hc)]
    exact rCk_t w t xa n cap (by omega) (by omega) (by omega) hc
  | true =>
    have hall : (∀ k, k < n → isCan (s k) = true ∧ 0 ≤ vS (s k)) → ¬ (isCan t = false ∨ allC n s = false ∨ negs n s = true) := fun h => by
      rintro (q | q | q)
      · rw [hc] at q; exact absurd q (by decide)
      · rw [allC_iff.2 fun i hi => (h i hi).1] at q; exact absurd q (by decide)
      · rw [negs_false.2 fun i hi => (h i hi).2] at q; exact absurd q (by decide)
    refine rCk_loop w t xa n cap s hr (by omega) (by omega) (by omega) hc ⟨by omega, hf.size (by omega)⟩ _ (fun k hk h => ?_) (fun h hz => ?_) (fun h hz => ?_)
    · unfold weighE
      rw [if_neg h0, if_neg h1, if_pos]
      rcases h with h | h
      · exact Or.inr (Or.inl (allC_false hk h))
      · refine Or.inr (Or.inr ?_)
        cases q : negs n s with
        | true => rfl
        | false => have := negs_false.1 q k hk; omega
    · unfold weighE
      rw [if_neg h0, if_neg h1, if_neg (hall h), if_pos hz]
    · unfold weighE
      rw [if_neg h0, if_neg h1, if_neg (hall h), if_neg hz]

end Go.Proofs.YthhihdihkddakaaGreatDoor

/- The reference of layer 4: Ideal, absolute: the walks. -/
namespace Go.Proofs.YthhihdihkddakaaGreatDoor
open Go.RowKit Fra

set_option maxRecDepth 100000 in
set_option maxHeartbeats 8000000 in
theorem rIdeal_bad (w : World) (t : ByteArray) (xa : Option Addr) (n cap : Nat) (s : Nat → ByteArray) (hr : Rs w xa n s) (hf : FitQ n t s) (h : weighE t n s ≠ 0) :
    Calls Tryz.prog 17 #[.string t, .slice xa n cap] w fun e w' => e = .returned (nilE (weighE t n s)) ∧ Below w.heap.size w w' := by
  have HW := Lib.hid (rCk w t xa n cap s hr hf)
  obtain ⟨c, hc⟩ : ∃ c, weighE t n s = c := ⟨_, rfl⟩
  rw [hc] at HW ⊢
  have hb : (c != 0) = true := by rw [bne_iff_ne, ← hc]; exact h
  clear hc h hr hf
  unfold nilE
  go_enter Tryz.func17, Tryz.ntmps17
  go_wp2_with fail
  refine HW.out.mono ?_
  rintro _ w1 ⟨rfl, hB⟩
  go_wp2_with fail
  go_ret2
  exact ⟨rfl, hB⟩

set_option maxRecDepth 100000 in
set_option maxHeartbeats 8000000 in
theorem rIdeal_ok (w : World) (hG : Ground w) (t : ByteArray) (xa : Option Addr) (n cap : Nat) (s : Nat → ByteArray) (hr : Rs w xa n s) (hf : FitQ n t s) (h : weighE t n s = 0) :
    Calls Tryz.prog 17 #[.string t, .slice xa n cap] w fun e w' => ∃ ya cy, n ≤ cy ∧ e = .returned (.tuple #[.slice ya n cy, .int .i64 0]) ∧ Rf w' ya n (idN (vS t) (Num.sumN (wtN s) n) (wtN s)) (idD (vS t) (Num.sumN (wtN s) n) (wtN s)) ∧ Below w.heap.size w w' := by
  have hgd := weighE_zero h
  have hd := hgd.data hf.fitW
  obtain ⟨c, hc1, hdiv⟩ := hd.divc
  have hn := hdiv.few
  have HW := Lib.hid (rCk w t xa n cap s hr hf)
  rw [h] at HW
  have HSM := Lib.hid (fun W hr => rSumR xa n cap s W hr ⟨by omega, hf.size (by omega)⟩)
  have hfr : FitR n s := ⟨by omega, hf.size (by omega)⟩
  have hsz := hfr.sum (Nat.le_refl n)
  rw [hd.sum] at HSM hsz
  unfold StrPost at HSM
  have HR := Lib.hid hr
  have HG := Lib.hid hG
  have ht1 := hf.t1
  have HV := Lib.hid (fun i (hi : i < n) => ((⟨hd.each i hi, hf.size (by omega) i hi⟩ : s i = cS (wtN s i : Nat) ∧ (s i).size ≤ 200)))
  obtain ⟨T, hT⟩ : ∃ T, vS t = T := ⟨_, rfl⟩
  obtain ⟨W, hWW⟩ : ∃ W, Num.sumN (wtN s) n = W := ⟨_, rfl⟩
  obtain ⟨wt, hwt⟩ : ∃ wt, wtN s = wt := ⟨_, rfl⟩
  have hw0 := hdiv.w0
  rw [hWW] at HSM hsz hw0
  rw [hT, hWW, hwt]
  rw [hwt] at HV
  obtain ⟨u, hu⟩ : ∃ u, cS (W : Nat) = u := ⟨_, rfl⟩
  rw [hu] at HSM hsz
  have HU := Lib.hid hu
  have HT := Lib.hid hT
  clear hgd hd hdiv hr hf h hG hT hWW hwt hu hc1 hfr
  go_enter Tryz.func17, Tryz.ntmps17
  go_wp2_with fail
  refine HW.out.mono ?_
  rintro _ w1 ⟨rfl, hB⟩
  go_wp2_with fail
  refine (HSM.out w1 (HR.out.belowAt hB (Nat.le_refl _))).mono ?_
  rintro _ w2 ⟨rfl, hB2⟩
  have HB0 := Lib.hid (hB.trans (hB2.mono hB.size))
  clear hB hB2
  obtain ⟨B, hBs⟩ : ∃ B, w2.heap.size = B := ⟨_, rfl⟩
  have hwB : w.heap.size ≤ B := by have := HB0.out.size; omega
  have HB1 := Lib.hid (show Below B w2 w2 from Below.refl _ _)
  have HBS := Lib.hid hBs
  clear hBs
  go_wp2_with fail
  go_loopw [8, 9] (fun pa iv wr => ∃ i : Nat, i ≤ n ∧ iv = .int .i64 (i : Int) ∧ Hid (OwnF wr B pa i (idN T W wt) (idD T W wt)) ∧ Hid (Below B w2 wr)) (fun _ iv _ => n - (intOf iv).toNat)
  case atStart => exact ⟨0, Nat.zero_le _, rfl, Lib.hid (OwnC.nil _ _ _ _ _), HB1⟩
  case round =>
    clear HB1
    obtain ⟨i, hi1, rfl, HPA, HB⟩ := hrel
    have hBw : B ≤ wr.heap.size := by have := HB.out.size; have := HBS.out; omega
    by_cases hlt : i < n
    · have HHB := Lib.hid (HB0.out.trans (HB.out.mono hwB))
      obtain ⟨b, o, rfl, hbb, hck⟩ := Rs.at (HR.out.belowAt HHB.out (Nat.le_refl _)) hlt
      obtain ⟨hv1, hv2⟩ := HV.out i hlt
      have hcm : Cap 400 (T * (wt i : Nat)) := by
        have h1 := Cap.mul (k := 200) (l := 200) (Cap.of ht1 HT.out) (Cap.of hv2 (show vS (s i) = (wt i : Nat) by rw [hv1, vS_cS]))
        exact h1
      have hcs := cS_size hcm
      have HM := Lib.hid (fun W' => qMul (a := t) (b := s i) (z := T * (wt i : Nat)) W' (by omega) (by omega) HT.out (by rw [hv1, vS_cS]) rfl)
      have HN := Lib.hid (fun W' hW => qNew_any (x := T * (wt i : Nat)) (y := (W : Nat)) (n := cS (T * (wt i : Nat))) (d := u) W' hW (by omega) (by omega) (vS_cS _) (by rw [← HU.out]; exact vS_cS _) (by omega))
      rw [idl_redS hw0] at HN
      unfold StrPost at HM
      have hw1 : IntKind.i64.wrap ((i : Int) + 1) = (i : Int) + 1 := IntWalk.i64_in _ (by omega)
      obtain ⟨si, hsi⟩ : ∃ si, s i = si := ⟨_, rfl⟩
      obtain ⟨mi, hmi⟩ : ∃ mi, cS (T * (wt i : Nat)) = mi := ⟨_, rfl⟩
      obtain ⟨pn, hpn⟩ : ∃ pn, cS (idl T W wt i).1 = pn := ⟨_, rfl⟩
      obtain ⟨pd, hpd⟩ : ∃ pd, cD (idl T W wt i).2 = pd := ⟨_, rfl⟩
      rw [hsi] at hck HM
      rw [hmi] at HM HN
      rw [hpn, hpd] at HN
      have HPN := Lib.hid (show idN T W wt i = pn from hpn)
      have HPD := Lib.hid (show idD T W wt i = pd from hpd)
      clear hsi hmi hpn hpd hbb hv1 hv2 hcm hcs
      go_wp2_with fail
      refine (HM.out _).mono ?_
      rintro _ w3 ⟨rfl, hB⟩
      have HB3 := Lib.hid (HB.out.trans (hB.mono hBw))
      have HPA3 := Lib.hid (HPA.out.kept hB)
      have hBw3 : B ≤ w3.heap.size := by have := hB.size; omega
      have HHB3 := Lib.hid (HB0.out.trans (HB3.out.mono hwB))
      clear hB HB HPA HHB hck
      go_wp2_with fail
      refine (HN.out _ (HG.out.below HHB3.out)).mono ?_
      rintro _ w8 ⟨rfl, hB⟩
      have HPA5 := Lib.hid ((HPA3.out.kept hB |>.alloc (.cells #[.string pn, .string pd] 36)).alloc (.cells #[.string pn, .string pd] 36))
      have hBw8 : B ≤ w8.heap.size := by have := hB.size; omega
      have HB9 := Lib.hid (((HB3.out.trans (hB.mono hBw3)).alloc (by omega) (.cells #[.string pn, .string pd] 36)).alloc (by rw [World.size_alloc]; omega) (.cells #[.string pn, .string pd] 36))
      have hBw9 : B ≤ ((w8.alloc (.cells #[.string pn, .string pd] 36)).alloc (.cells #[.string pn, .string pd] 36)).heap.size := by rw [World.size_alloc, World.size_alloc]; omega
      have HC2 := Lib.hid (show ((w8.alloc (.cells #[.string pn, .string pd] 36)).alloc (.cells #[.string pn, .string pd] 36)).cell? ⟨w8.heap.size + 1, 0, none⟩ = some (.string (idN T W wt i)) by rw [HPN.out]; have := heap_alloc_new (w8.alloc (.cells #[.string pn, .string pd] 36)) (.cells #[.string pn, .string pd] 36); rw [World.size_alloc] at this; exact cell_of_row _ _ _ _ _ _ this)
      have HC3 := Lib.hid (show ((w8.alloc (.cells #[.string pn, .string pd] 36)).alloc (.cells #[.string pn, .string pd] 36)).cell? ⟨w8.heap.size + 1, 1, none⟩ = some (.string (idD T W wt i)) by rw [HPD.out]; have := heap_alloc_new (w8.alloc (.cells #[.string pn, .string pd] 36)) (.cells #[.string pn, .string pd] 36); rw [World.size_alloc] at this; exact cell_of_row _ _ _ _ _ _ this)
      clear hB HPA3 HB3 HHB3 hBw hBw3
      go_wp2_with (at_builtin; refine wp_addFrac2 rfl _ _ rfl B _ i (idN T W wt) (idD T W wt) (y := .slice none 0 0) (m := 0) (d := fun _ => .int .i64 0) rfl HPA5.out (OwnC.nil _ _ _ _ _) (w8.heap.size + 1) HC2.out HC3.out rfl (by omega) hBw9 ?_; intro v10 W10 hO3 _ hB4; have HPA6 := Lib.hid hO3; have HB10 := Lib.hid (HB9.out.trans (hB4.mono (Nat.le_refl _))); clear hO3 hB4 HPA5 HC2 HC3 HB9)
      go_roundw
      case rel => exact ⟨i + 1, by omega, by simp, HPA6, HB10⟩
      case measure => simp [intOf]; omega
    · obtain rfl : i = n := by omega
      obtain ⟨pa', pc, rfl, hpr, hnc, _, _, _⟩ := HPA.out.rc
      have hb := HB0.out.trans (HB.out.mono hwB)
      clear HPA HB
      go_wp2_with fail
      go_ret2
      exact ⟨_, _, hnc, rfl, hpr, hb⟩

set_option maxRecDepth 100000 in
set_option maxHeartbeats 8000000 in
theorem rAbs_neg {u v a b : ByteArray} {c : Int} (hc : c < 0) (h1 : Ret 58 #[.agg #[.string u, .string v], .agg #[.string ⟨#[]⟩, .string ⟨#[]⟩]] (.int .i64 c)) (h2 : Ret 106 #[.agg #[.string u, .string v]] (.agg #[.string a, .string b])) :
    Ret 51 #[.agg #[.string u, .string v]] (.agg #[.string a, .string b]) := by
  intro w hG
  have H1 := Lib.hid h1
  clear h1
  have hc2 : decide (c < 0) = true := decide_eq_true hc
  have H2 := Lib.hid h2
  clear h2
  obtain ⟨W0, hW0⟩ : ∃ W0, W0 = (w.alloc (.cells #[.string u, .string v] 36)).alloc (.cells #[.string ⟨#[]⟩, .string ⟨#[]⟩] 36) := ⟨_, rfl⟩
  have hS : StL w W0 [(w.heap.size + 1, ⟨#[]⟩, ⟨#[]⟩), (w.heap.size, u, v)] := by rw [hW0]; exact StL.two hG _ _ _ _
  go_enter Tryz.func51, Tryz.ntmps51
  go_upto_region 1 with fail
  rw [← hW0]
  clear hW0
  obtain ⟨_, fp1, _⟩ := hS.box
  obtain ⟨fx1, fy1, _, _⟩ := fp1.cells
  go_wp2_with fail
  clear fp1 fx1 fy1
  refine Calls.mono (H1.out _ hS.g) ?_
  rintro _ w1 ⟨rfl, hB⟩
  replace hS := hS.next hB
  clear hB
  obtain ⟨fp0, fp1, _⟩ := hS.box
  obtain ⟨fx0, fy0, fz0, fw0⟩ := fp0.cells
  obtain ⟨fx1, fy1, _, _⟩ := fp1.cells
  go_wp2_with fail
  clear fp0 fp1 fx0 fy0 fz0 fw0 fx1 fy1
  refine Calls.mono (H2.out _ hS.g) ?_
  rintro _ w2 ⟨rfl, hB⟩
  replace hS := hS.next hB
  clear hB
  obtain ⟨fp0, fp1, _⟩ := hS.box
  obtain ⟨fx0, fy0, fz0, fw0⟩ := fp0.cells
  go_wp2_with fail
  clear fp0 fp1 fx0 fy0 fz0 fw0
  obtain ⟨fp0, _, _⟩ := hS.box
  obtain ⟨k0, k1, _, _⟩ := (fp0.put a b).cells
  (try simp only [Exit.inBlock, Exit.then])
  exact bodyPost_ret (v := .agg #[.string a, .string b]) (by simp [results, Tryz.results51, go_sem, k0, k1]) rfl ⟨rfl, below_put hS.below (by omega) _ _⟩

set_option maxRecDepth 100000 in
set_option maxHeartbeats 8000000 in
theorem rAbs_pos {u v : ByteArray} {c : Int} (hc : ¬ c < 0) (h1 : Ret 58 #[.agg #[.string u, .string v], .agg #[.string ⟨#[]⟩, .string ⟨#[]⟩]] (.int .i64 c)) :
    Ret 51 #[.agg #[.string u, .string v]] (.agg #[.string u, .string v]) := by
  intro w hG
  have H1 := Lib.hid h1
  clear h1
  have hc2 : decide (c < 0) = false := decide_eq_false hc
  obtain ⟨W0, hW0⟩ : ∃ W0, W0 = (w.alloc (.cells #[.string u, .string v] 36)).alloc (.cells #[.string ⟨#[]⟩, .string ⟨#[]⟩] 36) := ⟨_, rfl⟩
  have hS : StL w W0 [(w.heap.size + 1, ⟨#[]⟩, ⟨#[]⟩), (w.heap.size, u, v)] := by rw [hW0]; exact StL.two hG _ _ _ _
  go_enter Tryz.func51, Tryz.ntmps51
  go_upto_region 1 with fail
  rw [← hW0]
  clear hW0
  obtain ⟨_, fp1, _⟩ := hS.box
  obtain ⟨fx1, fy1, _, _⟩ := fp1.cells
  go_wp2_with fail
  clear fp1 fx1 fy1
  refine Calls.mono (H1.out _ hS.g) ?_
  rintro _ w1 ⟨rfl, hB⟩
  replace hS := hS.next hB
  clear hB
  obtain ⟨fp0, fp1, _⟩ := hS.box
  obtain ⟨fx0, fy0, fz0, fw0⟩ := fp0.cells
  obtain ⟨fx1, fy1, _, _⟩ := fp1.cells
  go_wp2_with fail
  clear fp0 fp1 fx0 fy0 fz0 fw0 fx1 fy1
  obtain ⟨fp0, _, _⟩ := hS.box
  obtain ⟨k0, k1, _, _⟩ := (fp0.put u v).cells
  (try simp only [Exit.inBlock, Exit.then])
  exact bodyPost_ret (v := .agg #[.string u, .string v]) (by simp [results, Tryz.results51, go_sem, k0, k1]) rfl ⟨rfl, below_put hS.below (by omega) _ _⟩

/-- the size of a fraction -/
def absP (p : Int × Int) : Int × Int := if p.1 < 0 then negP p else p
theorem rAbs {p : Int × Int} {k : Nat} (hp : 0 < p.2) (hc : CapP k p) (hk : k ≤ 300) : Ret 51 #[.agg #[.string (cS p.1), .string (cD p.2)]] (.agg #[.string (cS (absP p).1), .string (cD (absP p).2)]) := by
  have s1 := cS_size hc.1
  have s2 := cD_size hc.2
  have hcmp : Ret 58 #[.agg #[.string (cS p.1), .string (cD p.2)], .agg #[.string ⟨#[]⟩, .string ⟨#[]⟩]] (.int .i64 (cmpP p (0, 1))) := fun W hW => by
    have := qCompare_any (cS p.1) (cD p.2) ⟨#[]⟩ ⟨#[]⟩ W hW (by omega) (by omega) (by decide) (by decide)
    rwa [raw_can hp, raw_nil] at this
  have hneg : Ret 106 #[.agg #[.string (cS p.1), .string (cD p.2)]] (.agg #[.string (cS (negP p).1), .string (cD (negP p).2)]) := fun W hW => by
    have := qNeg_any (cS p.1) (cD p.2) W hW (by omega) (by omega)
    rwa [raw_can hp] at this
  have hlt : cmpP p (0, 1) < 0 ↔ p.1 < 0 := by
    unfold cmpP cmp3
    simp only [Int.mul_one, Int.zero_mul]
    constructor
    · intro h
      rcases Int.lt_or_le p.1 0 with e | e
      · exact e
      · rw [if_neg (by omega)] at h
        split at h <;> omega
    · intro h
      rw [if_pos h]
      omega
  unfold absP
  by_cases h : p.1 < 0
  · rw [if_pos h]
    exact rAbs_neg (hlt.2 h) hcmp hneg
  · rw [if_neg h]
    exact rAbs_pos (fun q => h (hlt.1 q)) hcmp

end Go.Proofs.YthhihdihkddakaaGreatDoor
