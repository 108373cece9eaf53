/- The reference of layer 4: negative, Sum, check, Ideal, absolute: the walks. -/
import Derived.Test.YthhihdihkddakaaGreatDoorZShF
import Derived.Test.YthhihdihkddakaaGreatDoorZShJ
import Derived.Test.YthhihdihkddakaaGreatDoorZShQ
import Derived.Test.YthhihdihkddakaaGreatDoorZShR
namespace Go.Proofs.YthhihdihkddakaaGreatDoor
open Go.RowKit Fra

set_option maxRecDepth 100000 in
set_option maxHeartbeats 8000000 in
theorem rNegative {s : ByteArray} {z : Int} (hs : s.size ≤ 4294967295) (hz : vS s = z) (w : World) :
    Calls Tryz.prog 60 #[.string s] w fun e w' => e = .returned (.bool (decide (z < 0))) ∧ w = w' := by
  obtain ⟨c, hc⟩ : ∃ c, cmp3 z 0 = c := ⟨_, rfl⟩
  have HD := Lib.hid (show decide (c < 0) = decide (z < 0) by rw [← hc]; exact cmp3_lt0 z)
  have HC := Lib.hid (qCmp w (by omega) (by decide) hz vS_nil hc)
  clear hc hz hs
  go_enter Tryz.func60, Tryz.ntmps60
  go_wp2_with fail
  refine HC.out.mono ?_
  rintro _ _ ⟨rfl, rfl⟩
  go_wp2_with fail
  go_ret
  exact ⟨by rw [HD.out]; simp, rfl⟩

/-- few numbers, not long -/
structure FitR (N : Nat) (s : Nat → ByteArray) : Prop where
  few : N ≤ 100
  size : ∀ i, i < N → (s i).size ≤ 200
theorem FitR.sum {N k : Nat} {s : Nat → ByteArray} (h : FitR N s) (hk : k ≤ N) : (cS (sumS s k)).size ≤ 301 := by
  have h1 := sumS_cap (s := s) (c := 200) (by decide) (k := k) (fun i hi => Cap.of (h.size i (by omega)) rfl)
  have := cS_size h1
  have := h.few
  omega

set_option maxRecDepth 100000 in
set_option maxHeartbeats 8000000 in
theorem rSumR (xa : Option Addr) (N cap : Nat) (s : Nat → ByteArray) (w : World) (hr : Rs w xa N s) (hf : FitR N s) :
    Calls Tryz.prog 57 #[.slice xa N cap] w (StrPost w (sumS s N)) := by
  have HR := Lib.hid hr
  have HF := Lib.hid hf
  have hlim := hf.few
  clear hr hf
  unfold StrPost
  go_enter Tryz.func57, Tryz.ntmps57
  go_wp2_with fail
  go_loopw [3, 4] (fun sv iv wr => ∃ k : Nat, k ≤ N ∧ iv = .int .i64 (k : Int) ∧ sv = .string (cS (sumS s k)) ∧ Hid (Below w.heap.size w wr)) (fun _ iv _ => N - (intOf iv).toNat)
  case atStart => exact ⟨0, Nat.zero_le _, rfl, by rw [sumS_zero, cS_zero], Lib.hid (Below.refl _ _)⟩
  case round =>
    obtain ⟨k, hk, rfl, rfl, HB⟩ := hrel
    by_cases hlt : k < N
    · obtain ⟨b, o, rfl, hb, hck⟩ := Rs.at (HR.out.belowAt HB.out (Nat.le_refl _)) hlt
      have hsz := HF.out.size k hlt
      have HA := Lib.hid (qAdd (z := sumS s (k + 1)) wr (show (cS (sumS s k)).size ≤ 1000 by have := HF.out.sum (k := k) (by omega); omega) (show (s k).size ≤ 1000 by omega) (vS_cS _) rfl (sumS_succ s k).symm)
      unfold StrPost at HA
      obtain ⟨sk, hsk⟩ : ∃ sk, s k = sk := ⟨_, rfl⟩
      rw [hsk] at hck HA
      have hw1 : IntKind.i64.wrap ((k : Int) + 1) = (k : Int) + 1 := IntWalk.i64_in _ (by omega)
      clear hsz hsk
      go_wp2_with fail
      refine HA.out.mono ?_
      rintro _ w2 ⟨rfl, hB2⟩
      have HB2 := Lib.hid (HB.out.trans (hB2.mono HB.out.size))
      clear hB2 HA HB
      go_wp2_with fail
      go_roundw
      case rel => exact ⟨k + 1, by omega, by simp, rfl, HB2⟩
      case measure => simp [intOf]; omega
    · obtain rfl : k = N := by omega
      go_wp2_with fail
      go_ret
      exact ⟨rfl, HB.out⟩

set_option maxRecDepth 100000 in
set_option maxHeartbeats 8000000 in
theorem rCk_zero (w : World) (t : ByteArray) (xa : Option Addr) (cap : Nat) :
    Calls Tryz.prog 62 #[.string t, .slice xa 0 cap] w fun e w' => e = .returned (.int .i64 11) ∧ Below w.heap.size w w' := by
  go_enter Tryz.func62, Tryz.ntmps62
  go_wp2_with fail
  go_ret
  exact ⟨rfl, Below.refl _ _⟩

set_option maxRecDepth 100000 in
set_option maxHeartbeats 8000000 in
theorem rCk_many (w : World) (t : ByteArray) (xa : Option Addr) (n cap : Nat) (h : 1000 < n) :
    Calls Tryz.prog 62 #[.string t, .slice xa n cap] w fun e w' => e = .returned (.int .i64 4) ∧ Below w.heap.size w w' := by
  have hi : (1000 : Int) < n := by omega
  have hb2 : ((n : Int) == 0) = false := by rw [beq_eq_false_iff_ne]; omega
  have hn0 : n ≠ 0 := by omega
  have hn1 : (n == 0) = false := by rw [beq_eq_false_iff_ne]; omega
  clear h
  go_enter Tryz.func62, Tryz.ntmps62
  go_wp2_with fail
  go_ret
  exact ⟨rfl, Below.refl _ _⟩

set_option maxRecDepth 100000 in
set_option maxHeartbeats 8000000 in
theorem rCk_t (w : World) (t : ByteArray) (xa : Option Addr) (n cap : Nat) (h0 : 0 < n) (h1 : n ≤ 1000) (ht : t.size ≤ 1000) (hc : isCan t = false) :
    Calls Tryz.prog 62 #[.string t, .slice xa n cap] w fun e w' => e = .returned (.int .i64 1) ∧ Below w.heap.size w w' := by
  have hi : ¬ (1000 : Int) < n := by omega
  have hb2 : ((n : Int) == 0) = false := by rw [beq_eq_false_iff_ne]; omega
  have hn0 : n ≠ 0 := by omega
  have hn1 : (n == 0) = false := by rw [beq_eq_false_iff_ne]; omega
  have HC := Lib.hid (rCheck_any t w (by omega))
  rw [show chk t = 1 by unfold chk; rw [hc]; rfl] at HC
  clear h0 h1 ht hc
  go_enter Tryz.func62, Tryz.ntmps62
  go_wp2_with fail
  refine HC.out.mono ?_
  rintro _ _ ⟨rfl, rfl⟩
  go_wp2_with fail
  go_ret
  exact ⟨rfl, Below.refl _ _⟩

set_option maxRecDepth 100000 in
set_option maxHeartbeats 8000000 in
theorem rCk_loop (w : World) (t : ByteArray) (xa : Option Addr) (n cap : Nat) (s : Nat → ByteArray) (hr : Rs w xa n s) (h0 : 0 < n) (h1 : n ≤ 100) (ht : t.size ≤ 1000) (hc : isCan t = true) (hf : FitR n s) (r : Int) (r1 : ∀ k, k < n → isCan (s k) = false ∨ vS (s k) < 0 → r = 1) (r2 : (∀ k, k < n → isCan (s k) = true ∧ 0 ≤ vS (s k)) → sumS s n = 0 → r = 10) (r3 : (∀ k, k < n → isCan (s k) = true ∧ 0 ≤ vS (s k)) → sumS s n ≠ 0 → r = 0) :
    Calls Tryz.prog 62 #[.string t, .slice xa n cap] w fun e w' => e = .returned (.int .i64 r) ∧ Below w.heap.size w w' := by
  have hi : ¬ (1000 : Int) < n := by omega
  have hb2 : ((n : Int) == 0) = false := by rw [beq_eq_false_iff_ne]; omega
  have hn0 : n ≠ 0 := by omega
  have hn1 : (n == 0) = false := by rw [beq_eq_false_iff_ne]; omega
  have HC := Lib.hid (rCheck_any t w (by omega))
  rw [show chk t = 0 by unfold chk; rw [hc]; rfl] at HC
  have HR := Lib.hid hr
  have HF := Lib.hid hf
  have HR1 := Lib.hid r1
  have HR2 := Lib.hid r2
  have HR3 := Lib.hid r3
  have HSM := Lib.hid (fun W hr => rSumR xa n cap s W hr hf)
  unfold StrPost at HSM
  clear hr h0 ht hc hf r1 r2 r3
  go_enter Tryz.func62, Tryz.ntmps62
  go_wp2_with fail
  refine HC.out.mono ?_
  rintro _ _ ⟨rfl, rfl⟩
  go_wp2_with fail
  go_loopw [5] (fun iv wr => ∃ k : Nat, k ≤ n ∧ iv = .int .i64 (k : Int) ∧ Hid (∀ i, i < k → isCan (s i) = true ∧ 0 ≤ vS (s i)) ∧ Hid (Below w.heap.size w wr)) (fun iv _ => n - (intOf iv).toNat)
  case atStart => exact ⟨0, Nat.zero_le _, rfl, Lib.hid (fun i hi => absurd hi (by omega)), Lib.hid (Below.refl _ _)⟩
  case round =>
    obtain ⟨k, hk, rfl, HA, HB⟩ := hrel
    by_cases hlt : k < n
    · obtain ⟨b, o, rfl, hb, hck⟩ := Rs.at (HR.out.belowAt HB.out (Nat.le_refl _)) hlt
      have hsz := HF.out.size k hlt
      have hw1 : IntKind.i64.wrap ((k : Int) + 1) = (k : Int) + 1 := IntWalk.i64_in _ (by omega)
      have HCK := Lib.hid (rCheck_any (s k) wr (by omega))
      have HNG := Lib.hid (rNegative (s := s k) (by omega) rfl wr)
      by_cases hcan : isCan (s k) = true
      · rw [show chk (s k) = 0 by unfold chk; rw [hcan]; rfl] at HCK
        by_cases hng : vS (s k) < 0
        · rw [decide_eq_true hng] at HNG
          have HE := Lib.hid (HR1.out k hlt (Or.inr hng))
          obtain ⟨sk, hsk⟩ : ∃ sk, s k = sk := ⟨_, rfl⟩
          rw [hsk] at hck HCK HNG
          clear hsz hsk hng hcan
          go_wp2_with fail
          refine HCK.out.mono ?_
          rintro _ _ ⟨rfl, rfl⟩
          go_wp2_with fail
          refine HNG.out.mono ?_
          rintro _ _ ⟨rfl, rfl⟩
          go_wp2_with fail
          go_ret
          exact ⟨by rw [HE.out]; rfl, HB.out⟩
        · rw [decide_eq_false hng] at HNG
          have HA2 := Lib.hid (show ∀ i, i < k + 1 → isCan (s i) = true ∧ 0 ≤ vS (s i) from fun i hi => by
            by_cases e : i = k
            · subst e; exact ⟨hcan, by omega⟩
            · exact HA.out i (by omega))
          obtain ⟨sk, hsk⟩ : ∃ sk, s k = sk := ⟨_, rfl⟩
          rw [hsk] at hck HCK HNG
          clear hsz hsk hng hcan
          go_wp2_with fail
          refine HCK.out.mono ?_
          rintro _ _ ⟨rfl, rfl⟩
          go_wp2_with fail
          refine HNG.out.mono ?_
          rintro _ _ ⟨rfl, rfl⟩
          go_wp2_with fail
          go_roundw
          case rel => exact ⟨k + 1, by omega, by simp, HA2, HB⟩
          case measure => simp [intOf]; omega
      · have hcan2 : isCan (s k) = false := by cases h : isCan (s k) <;> simp_all
        rw [show chk (s k) = 1 by unfold chk; rw [hcan2]; rfl] at HCK
        have HE := Lib.hid (HR1.out k hlt (Or.inl hcan2))
        obtain ⟨sk, hsk⟩ : ∃ sk, s k = sk := ⟨_, rfl⟩
        rw [hsk] at hck HCK
        clear hsz hsk hcan hcan2 HNG
        go_wp2_with fail
        refine HCK.out.mono ?_
        rintro _ _ ⟨rfl, rfl⟩
        go_wp2_with fail
        go_ret
        exact ⟨by rw [HE.out]; rfl, HB.out⟩
    · obtain rfl : k = n := by omega
      by_cases hz : sumS s k = 0
      · have HE := Lib.hid (HR2.out HA.out hz)
        rw [hz, cS_zero] at HSM
        clear hz
        go_wp2_with fail
        refine (HSM.out _ (HR.out.belowAt HB.out (Nat.le_refl _))).mono ?_
        rintro _ w2 ⟨rfl, hB⟩
        go_wp2_with fail
        go_ret
        exact ⟨by rw [HE.out]; rfl, HB.out.trans (hB.mono HB.out.size)⟩
      · have HE := Lib.hid (HR3.out HA.out hz)
        have hne := ne_nil_str (s := cS (sumS s k)) (fun e => hz (by rw [← vS_cS (sumS s k), e, vS_nil]))
        obtain ⟨u, hu⟩ : ∃ u, cS (sumS s k) = u := ⟨_, rfl⟩
        rw [hu] at HSM hne
        clear hz hu
        go_wp2_with fail
        refine (HSM.out _ (HR.out.belowAt HB.out (Nat.le_refl _))).mono ?_
        rintro _ w2 ⟨rfl, hB⟩
        go_wp2_with fail
        go_ret
        exact ⟨by rw [HE.out]; rfl, HB.out.trans (hB.mono HB.out.size)⟩

/-- few weights, not long -/
structure FitQ (n : Nat) (t : ByteArray) (s : Nat → ByteArray) : Prop where
  few : n ≤ 19 ∨ 1000 < n
  max : n ≤ 100000
  t1 : t.size ≤ 200
  size : n ≤ 1000 → ∀ i, i < n → (s i).size ≤ 200
theorem FitQ.fitW {n : Nat} {t : ByteArray} {s : Nat → ByteArray} (h : FitQ n t s) : FitW n t s := ⟨h.few, h.max, by have := h.t1; omega, fun hn i hi => by have := h.size hn i hi; omega⟩
theorem rCk (w : World) (t : ByteArray) (xa : Option Addr) (n cap : Nat) (s : Nat → ByteArray) (hr : Rs w xa n s) (hf : FitQ n t s) :
    Calls Tryz.prog 62 #[.string t, .slice xa n cap] w fun e w' => e = .returned (.int .i64 (weighE t n s)) ∧ Below w.heap.size w w' := by
  by_cases h0 : n = 0
  · subst h0
    unfold weighE
    rw [if_pos rfl]
    exact rCk_zero w t xa cap
  by_cases h1 : 1000 < n
  · unfold weighE
    rw [if_neg h0, if_pos h1]
    exact rCk_many w t xa n cap h1
  have hfew := hf.few
  have ht1 := hf.t1
  cases hc : isCan t with
  | false =>
    unfold weighE
    rw [if_neg h0, if_neg h1, if_pos (Or.inl hc)]
    exact rCk_t w t xa n cap (by omega) (by omega) (by omega) hc
  | true =>
    have hall : (∀ k, k < n → isCan (s k) = true ∧ 0 ≤ vS (s k)) → ¬ (isCan t = false ∨ allC n s = false ∨ negs n s = true) := fun h => by
      rintro (q | q | q)
      · rw [hc] at q; exact absurd q (by decide)
      · rw [allC_iff.2 fun i hi => (h i hi).1] at q; exact absurd q (by decide)
      · rw [negs_false.2 fun i hi => (h i hi).2] at q; exact absurd q (by decide)
    refine rCk_loop w t xa n cap s hr (by omega) (by omega) (by omega) hc ⟨by omega, hf.size (by omega)⟩ _ (fun k hk h => ?_) (fun h hz => ?_) (fun h hz => ?_)
    · unfold weighE
      rw [if_neg h0, if_neg h1, if_pos]
      rcases h with h | h
      · exact Or.inr (Or.inl (allC_false hk h))
      · refine Or.inr (Or.inr ?_)
        cases q : negs n s with
        | true => rfl
        | false => have := negs_false.1 q k hk; omega
    · unfold weighE
      rw [if_neg h0, if_neg h1, if_neg (hall h), if_pos hz]
    · unfold weighE
      rw [if_neg h0, if_neg h1, if_neg (hall h), if_neg hz]

end Go.Proofs.YthhihdihkddakaaGreatDoor

/- The reference of layer 4: Ideal, absolute: the walks. -/
namespace Go.Proofs.YthhihdihkddakaaGreatDoor
open Go.RowKit Fra

set_option maxRecDepth 100000 in
set_option maxHeartbeats 8000000 in
theorem rIdeal_ok (w : World) (hG : Ground w) (t : ByteArray) (xa : Option Addr) (n cap : Nat) (s : Nat → ByteArray) (hr : Rs w xa n s) (hf : FitQ n t s) (h : weighE t n s = 0) :
    Calls Tryz.prog 17 #[.string t, .slice xa n cap] w fun e w' => ∃ ya cy, n ≤ cy ∧ e = .returned (.tuple #[.slice ya n cy, .int .i64 0]) ∧ Rf w' ya n (idN (vS t) (Num.sumN (wtN s) n) (wtN s)) (idD (vS t) (Num.sumN (wtN s) n) (wtN s)) ∧ Below w.heap.size w w' := by
  have hgd := weighE_zero h
  have hd := hgd.data hf.fitW
  obtain ⟨c, hc1, hdiv⟩ := hd.divc
  have hn := hdiv.few
  have HW := Lib.hid (rCk w t xa n cap s hr hf)
  rw [h] at HW
  have HSM := Lib.hid (fun W hr => rSumR xa n cap s W hr ⟨by omega, hf.size (by omega)⟩)
  have hfr : FitR n s := ⟨by omega, hf.size (by omega)⟩
  have hsz := hfr.sum (Nat.le_refl n)
  rw [hd.sum] at HSM hsz
  unfold StrPost at HSM
  have HR := Lib.hid hr
  have HG := Lib.hid hG
  have ht1 := hf.t1
  have HV := Lib.hid (fun i (hi : i < n) => ((⟨hd.each i hi, hf.size (by omega) i hi⟩ : s i = cS (wtN s i : Nat) ∧ (s i).size ≤ 200)))
  obtain ⟨T, hT⟩ : ∃ T, vS t = T := ⟨_, rfl⟩
  obtain ⟨W, hWW⟩ : ∃ W, Num.sumN (wtN s) n = W := ⟨_, rfl⟩
  obtain ⟨wt, hwt⟩ : ∃ wt, wtN s = wt := ⟨_, rfl⟩
  have hw0 := hdiv.w0
  rw [hWW] at HSM hsz hw0
  rw [hT, hWW, hwt]
  rw [hwt] at HV
  obtain ⟨u, hu⟩ : ∃ u, cS (W : Nat) = u := ⟨_, rfl⟩
  rw [hu] at HSM hsz
  have HU := Lib.hid hu
  have HT := Lib.hid hT
  clear hgd hd hdiv hr hf h hG hT hWW hwt hu hc1 hfr
  go_enter Tryz.func17, Tryz.ntmps17
  go_wp2_with fail
  refine HW.out.mono ?_
  rintro _ w1 ⟨rfl, hB⟩
  go_wp2_with fail
  refine (HSM.out w1 (HR.out.belowAt hB (Nat.le_refl _))).mono ?_
  rintro _ w2 ⟨rfl, hB2⟩
  have HB0 := Lib.hid (hB.trans (hB2.mono hB.size))
  clear hB hB2
  obtain ⟨B, hBs⟩ : ∃ B, w2.heap.size = B := ⟨_, rfl⟩
  have hwB : w.heap.size ≤ B := by have := HB0.out.size; omega
  have HB1 := Lib.hid (show Below B w2 w2 from Below.refl _ _)
  have HBS := Lib.hid hBs
  clear hBs
  go_wp2_with fail
  go_loopw [8, 9] (fun pa iv wr => ∃ i : Nat, i ≤ n ∧ iv = .int .i64 (i : Int) ∧ Hid (OwnF wr B pa i (idN T W wt) (idD T W wt)) ∧ Hid (Below B w2 wr)) (fun _ iv _ => n - (intOf iv).toNat)
  case atStart => exact ⟨0, Nat.zero_le _, rfl, Lib.hid (OwnC.nil _ _ _ _ _), HB1⟩
  case round =>
    clear HB1
    obtain ⟨i, hi1, rfl, HPA, HB⟩ := hrel
    have hBw : B ≤ wr.heap.size := by have := HB.out.size; have := HBS.out; omega
    by_cases hlt : i < n
    · have HHB := Lib.hid (HB0.out.trans (HB.out.mono hwB))
      obtain ⟨b, o, rfl, hbb, hck⟩ := Rs.at (HR.out.belowAt HHB.out (Nat.le_refl _)) hlt
      obtain ⟨hv1, hv2⟩ := HV.out i hlt
      have hcm : Cap 400 (T * (wt i : Nat)) := by
        have h1 := Cap.mul (k := 200) (l := 200) (Cap.of ht1 HT.out) (Cap.of hv2 (show vS (s i) = (wt i : Nat) by rw [hv1, vS_cS]))
        exact h1
      have hcs := cS_size hcm
      have HM := Lib.hid (fun W' => qMul (a := t) (b := s i) (z := T * (wt i : Nat)) W' (by omega) (by omega) HT.out (by rw [hv1, vS_cS]) rfl)
      have HN := Lib.hid (fun W' hW => qNew_any (x := T * (wt i : Nat)) (y := (W : Nat)) (n := cS (T * (wt i : Nat))) (d := u) W' hW (by omega) (by omega) (vS_cS _) (by rw [← HU.out]; exact vS_cS _) (by omega))
      rw [idl_redS hw0] at HN
      unfold StrPost at HM
      have hw1 : IntKind.i64.wrap ((i : Int) + 1) = (i : Int) + 1 := IntWalk.i64_in _ (by omega)
      obtain ⟨si, hsi⟩ : ∃ si, s i = si := ⟨_, rfl⟩
      obtain ⟨mi, hmi⟩ : ∃ mi, cS (T * (wt i : Nat)) = mi := ⟨_, rfl⟩
      obtain ⟨pn, hpn⟩ : ∃ pn, cS (idl T W wt i).1 = pn := ⟨_, rfl⟩
      obtain ⟨pd, hpd⟩ : ∃ pd, cD (idl T W wt i).2 = pd := ⟨_, rfl⟩
      rw [hsi] at hck HM
      rw [hmi] at HM HN
      rw [hpn, hpd] at HN
      have HPN := Lib.hid (show idN T W wt i = pn from hpn)
      have HPD := Lib.hid (show idD T W wt i = pd from hpd)
      clear hsi hmi hpn hpd hbb hv1 hv2 hcm hcs
      go_wp2_with fail
      refine (HM.out _).mono ?_
      rintro _ w3 ⟨rfl, hB⟩
      have HB3 := Lib.hid (HB.out.trans (hB.mono hBw))
      have HPA3 := Lib.hid (HPA.out.kept hB)
      have hBw3 : B ≤ w3.heap.size := by have := hB.size; omega
      have HHB3 := Lib.hid (HB0.out.trans (HB3.out.mono hwB))
      clear hB HB HPA HHB hck
      go_wp2_with fail
      refine (HN.out _ (HG.out.below HHB3.out)).mono ?_
      rintro _ w8 ⟨rfl, hB⟩
      have HPA5 := Lib.hid ((HPA3.out.kept hB |>.alloc (.cells #[.string pn, .string pd] 36)).alloc (.cells #[.string pn, .string pd] 36))
      have hBw8 : B ≤ w8.heap.size := by have := hB.size; omega
      have HB9 := Lib.hid (((HB3.out.trans (hB.mono hBw3)).alloc (by omega) (.cells #[.string pn, .string pd] 36)).alloc (by rw [World.size_alloc]; omega) (.cells #[.string pn, .string pd] 36))
      have hBw9 : B ≤ ((w8.alloc (.cells #[.string pn, .string pd] 36)).alloc (.cells #[.string pn, .string pd] 36)).heap.size := by rw [World.size_alloc, World.size_alloc]; omega
      have HC2 := Lib.hid (show ((w8.alloc (.cells #[.string pn, .string pd] 36)).alloc (.cells #[.string pn, .string pd] 36)).cell? ⟨w8.heap.size + 1, 0, none⟩ = some (.string (idN T W wt i)) by rw [HPN.out]; have := heap_alloc_new (w8.alloc (.cells #[.string pn, .string pd] 36)) (.cells #[.string pn, .string pd] 36); rw [World.size_alloc] at this; exact cell_of_row _ _ _ _ _ _ this)
      have HC3 := Lib.hid (show ((w8.alloc (.cells #[.string pn, .string pd] 36)).alloc (.cells #[.string pn, .string pd] 36)).cell? ⟨w8.heap.size + 1, 1, none⟩ = some (.string (idD T W wt i)) by rw [HPD.out]; have := heap_alloc_new (w8.alloc (.cells #[.string pn, .string pd] 36)) (.cells #[.string pn, .string pd] 36); rw [World.size_alloc] at this; exact cell_of_row _ _ _ _ _ _ this)
      clear hB HPA3 HB3 HHB3 hBw hBw3
      go_wp2_with (at_builtin; refine wp_addFrac2 rfl _ _ rfl B _ i (idN T W wt) (idD T W wt) (y := .slice none 0 0) (m := 0) (d := fun _ => .int .i64 0) rfl HPA5.out (OwnC.nil _ _ _ _ _) (w8.heap.size + 1) HC2.out HC3.out rfl (by omega) hBw9 ?_; intro v10 W10 hO3 _ hB4; have HPA6 := Lib.hid hO3; have HB10 := Lib.hid (HB9.out.trans (hB4.mono (Nat.le_refl _))); clear hO3 hB4 HPA5 HC2 HC3 HB9)
      go_roundw
      case rel => exact ⟨i + 1, by omega, by simp, HPA6, HB10⟩
      case measure => simp [intOf]; omega
    · obtain rfl : i = n := by omega
      obtain ⟨pa', pc, rfl, hpr, hnc, _, _, _⟩ := HPA.out.rc
      have hb := HB0.out.trans (HB.out.mono hwB)
      clear HPA HB
      go_wp2_with fail
      go_ret2
      exact ⟨_, _, hnc, rfl, hpr, hb⟩

set_option maxRecDepth 100000 in
set_option maxHeartbeats 8000000 in
theorem rAbs_neg {u v a b : ByteArray} {c : Int} (hc : c < 0) (h1 : Ret 58 #[.agg #[.string u, .string v], .agg #[.string ⟨#[]⟩, .string ⟨#[]⟩]] (.int .i64 c)) (h2 : Ret 106 #[.agg #[.string u, .string v]] (.agg #[.string a, .string b])) :
    Ret 51 #[.agg #[.string u, .string v]] (.agg #[.string a, .string b]) := by
  intro w hG
  have H1 := Lib.hid h1
  clear h1
  have hc2 : decide (c < 0) = true := decide_eq_true hc
  have H2 := Lib.hid h2
  clear h2
  obtain ⟨W0, hW0⟩ : ∃ W0, W0 = (w.alloc (.cells #[.string u, .string v] 36)).alloc (.cells #[.string ⟨#[]⟩, .string ⟨#[]⟩] 36) := ⟨_, rfl⟩
  have hS : StL w W0 [(w.heap.size + 1, ⟨#[]⟩, ⟨#[]⟩), (w.heap.size, u, v)] := by rw [hW0]; exact StL.two hG _ _ _ _
  go_enter Tryz.func51, Tryz.ntmps51
  go_upto_region 1 with fail
  rw [← hW0]
  clear hW0
  obtain ⟨_, fp1, _⟩ := hS.box
  obtain ⟨fx1, fy1, _, _⟩ := fp1.cells
  go_wp2_with fail
  clear fp1 fx1 fy1
  refine Calls.mono (H1.out _ hS.g) ?_
  rintro _ w1 ⟨rfl, hB⟩
  replace hS := hS.next hB
  clear hB
  obtain ⟨fp0, fp1, _⟩ := hS.box
  obtain ⟨fx0, fy0, fz0, fw0⟩ := fp0.cells
  obtain ⟨fx1, fy1, _, _⟩ := fp1.cells
  go_wp2_with fail
  clear fp0 fp1 fx0 fy0 fz0 fw0 fx1 fy1
  refine Calls.mono (H2.out _ hS.g) ?_
  rintro _ w2 ⟨rfl, hB⟩
  replace hS := hS.next hB
  clear hB
  obtain ⟨fp0, fp1, _⟩ := hS.box
  obtain ⟨fx0, fy0, fz0, fw0⟩ := fp0.cells
  go_wp2_with fail
  clear fp0 fp1 fx0 fy0 fz0 fw0
  obtain ⟨fp0, _, _⟩ := hS.box
  obtain ⟨k0, k1, _, _⟩ := (fp0.put a b).cells
  (try simp only [Exit.inBlock, Exit.then])
  exact bodyPost_ret (v := .agg #[.string a, .string b]) (by simp [results, Tryz.results51, go_sem, k0, k1]) rfl ⟨rfl, below_put hS.below (by omega) _ _⟩

set_option maxRecDepth 100000 in
set_option maxHeartbeats 8000000 in
theorem rAbs_pos {u v : ByteArray} {c : Int} (hc : ¬ c < 0) (h1 : Ret 58 #[.agg #[.string u, .string v], .agg #[.string ⟨#[]⟩, .string ⟨#[]⟩]] (.int .i64 c)) :
    Ret 51 #[.agg #[.string u, .string v]] (.agg #[.string u, .string v]) := by
  intro w hG
  have H1 := Lib.hid h1
  clear h1
  have hc2 : decide (c < 0) = false := decide_eq_false hc
  obtain ⟨W0, hW0⟩ : ∃ W0, W0 = (w.alloc (.cells #[.string u, .string v] 36)).alloc (.cells #[.string ⟨#[]⟩, .string ⟨#[]⟩] 36) := ⟨_, rfl⟩
  have hS : StL w W0 [(w.heap.size + 1, ⟨#[]⟩, ⟨#[]⟩), (w.heap.size, u, v)] := by rw [hW0]; exact StL.two hG _ _ _ _
  go_enter Tryz.func51, Tryz.ntmps51
  go_upto_region 1 with fail
  rw [← hW0]
  clear hW0
  obtain ⟨_, fp1, _⟩ := hS.box
  obtain ⟨fx1, fy1, _, _⟩ := fp1.cells
  go_wp2_with fail
  clear fp1 fx1 fy1
  refine Calls.mono (H1.out _ hS.g) ?_
  rintro _ w1 ⟨rfl, hB⟩
  replace hS := hS.next hB
  clear hB
  obtain ⟨fp0, fp1, _⟩ := hS.box
  obtain ⟨fx0, fy0, fz0, fw0⟩ := fp0.cells
  obtain ⟨fx1, fy1, _, _⟩ := fp1.cells
  go_wp2_with fail
  clear fp0 fp1 fx0 fy0 fz0 fw0 fx1 fy1
  obtain ⟨fp0, _, _⟩ := hS.box
  obtain ⟨k0, k1, _, _⟩ := (fp0.put u v).cells
  (try simp only [Exit.inBlock, Exit.then])
  exact bodyPost_ret (v := .agg #[.string u, .string v]) (by simp [results, Tryz.results51, go_sem, k0, k1]) rfl ⟨rfl, below_put hS.below (by omega) _ _⟩

/-- the size of a fraction -/
def absP (p : Int × Int) : Int × Int := if p.1 < 0 then negP p else p
theorem rAbs {p : Int × Int} {k : Nat} (hp : 0 < p.2) (hc : CapP k p) (hk : k ≤ 300) : Ret 51 #[.agg #[.string (cS p.1), .string (cD p.2)]] (.agg #[.string (cS (absP p).1), .string (cD (absP p).2)]) := by
  have s1 := cS_size hc.1
  have s2 := cD_size hc.2
  have hcmp : Ret 58 #[.agg #[.string (cS p.1), .string (cD p.2)], .agg #[.string ⟨#[]⟩, .string ⟨#[]⟩]] (.int .i64 (cmpP p (0, 1))) := fun W hW => by
    have := qCompare_any (cS p.1) (cD p.2) ⟨#[]⟩ ⟨#[]⟩ W hW (by omega) (by omega) (by decide) (by decide)
    rwa [raw_can hp, raw_nil] at this
  have hneg : Ret 106 #[.agg #[.string (cS p.1), .string (cD p.2)]] (.agg #[.string (cS (negP p).1), .string (cD (negP p).2)]) := fun W hW => by
    have := qNeg_any (cS p.1) (cD p.2) W hW (by omega) (by omega)
    rwa [raw_can hp] at this
  have hlt : cmpP p (0, 1) < 0 ↔ p.1 < 0 := by
    unfold cmpP cmp3
    simp only [Int.mul_one, Int.zero_mul]
    constructor
    · intro h
      rcases Int.lt_or_le p.1 0 with e | e
      · exact e
      · rw [if_neg (by omega)] at h
        split at h <;> omega
    · intro h
      rw [if_pos h]
      omega
  unfold absP
  by_cases h : p.1 < 0
  · rw [if_pos h]
    exact rAbs_neg (hlt.2 h) hcmp hneg
  · rw [if_neg h]
    exact rAbs_pos (fun q => h (hlt.1 q)) hcmp

end Go.Proofs.YthhihdihkddakaaGreatDoor

/- The reference of layer 4: Check; the law AllocateChecks: the walks. -/
namespace Go.Proofs.YthhihdihkddakaaGreatDoor
open Go.RowKit Fra

theorem red_neg_iff {z W : Int} (h0 : 0 < W) : (red z W).1 < 0 ↔ z < 0 := by
  have h1 := red_cross (n := z) (d := W)
  have h2 := red_pos (n := z) (d := W) h0
  constructor
  · intro h
    rcases Int.lt_or_le z 0 with e | e
    · exact e
    · have h3 := Int.mul_neg_of_neg_of_pos h h0
      have h4 := Int.mul_nonneg e (Int.le_of_lt h2)
      omega
  · intro h
    rcases Int.lt_or_le (red z W).1 0 with e | e
    · exact e
    · have h3 := Int.mul_neg_of_neg_of_pos h h2
      have h4 := Int.mul_nonneg e (Int.le_of_lt h0)
      omega
theorem absP_red {z W : Int} (h0 : 0 < W) : absP (red z W) = red (z.natAbs : Int) W := by
  unfold absP
  by_cases h : z < 0
  · rw [if_pos ((red_neg_iff h0).2 h), negP_congr (z := (z, W)) (red_pos h0) h0 (same_red _ _), show ((z.natAbs : Nat) : Int) = -z by omega]
    rfl
  · rw [if_neg (fun q => h ((red_neg_iff h0).1 q)), show ((z.natAbs : Nat) : Int) = z by omega]
end Go.Proofs.YthhihdihkddakaaGreatDoor

/- The reference of layer 4: what Split finds on its way. -/
namespace Go.Proofs.YthhihdihkddakaaGreatDoor
open Go.RowKit Fra

theorem less_red {z x W : Int} (h0 : 0 < W) : addP (red z W) (negP (x, 1)) = red (z - x * W) W := by
  rw [addP_congr (z := (z, W)) (w := (-x, 1)) (red_pos h0) (negP_pos (x := (x, 1)) Int.one_pos) h0 Int.one_pos (same_red _ _) (same_red _ _)]
  unfold addP
  simp only [Int.mul_one]
  rw [Int.neg_mul, Int.sub_eq_add_neg]
theorem raw_int (x : Int) : raw (cS x) ⟨#[]⟩ = (x, 1) := by
  have := raw_can (p := (x, 1)) Int.one_pos
  rwa [show cD (x, (1 : Int)).2 = ⟨#[]⟩ from cD_one] at this
theorem raw_red {z W : Int} (h0 : 0 < W) : raw (cS (red z W).1) (cD (red z W).2) = red z W := raw_can (red_pos h0)
theorem absP_int (T : Int) : absP (T, 1) = (((T.natAbs : Nat) : Int), 1) := by
  unfold absP
  by_cases h : T < 0
  · rw [if_pos h, show ((T.natAbs : Nat) : Int) = -T by omega]
    unfold negP
    exact red_lowest (by simp)
  · rw [if_neg h, show ((T.natAbs : Nat) : Int) = T by omega]

/-- the rests when k units have been given away -/
def rN (A W : Nat) (wt : Nat → Nat) (n k i : Nat) : ByteArray := cS (red (Num.restP (Num.remP A W wt) W n k i) (W : Nat)).1
def rD (A W : Nat) (wt : Nat → Nat) (n k i : Nat) : ByteArray := cD (red (Num.restP (Num.remP A W wt) W n k i) (W : Nat)).2
/-- the sizes of the ideal parts -/
def xN (A W : Nat) (wt : Nat → Nat) (i : Nat) : ByteArray := cS (red ((A : Int) * (wt i : Nat)) (W : Nat)).1
def xD (A W : Nat) (wt : Nat → Nat) (i : Nat) : ByteArray := cD (red ((A : Int) * (wt i : Nat)) (W : Nat)).2
theorem rest_next {A W n k i : Nat} {wt : Nat → Nat} (h : Num.rk (Num.remP A W wt) n i = k) : Num.restP (Num.remP A W wt) W n (k + 1) i = Num.restP (Num.remP A W wt) W n k i - (W : Int) := by
  unfold Num.restP
  rw [if_pos (by omega), if_neg (by omega)]
  omega
theorem rest_stay {A W n k i : Nat} {wt : Nat → Nat} (h : Num.rk (Num.remP A W wt) n i ≠ k) : Num.restP (Num.remP A W wt) W n (k + 1) i = Num.restP (Num.remP A W wt) W n k i := by
  unfold Num.restP
  by_cases g : Num.rk (Num.remP A W wt) n i < k
  · rw [if_pos g, if_pos (by omega)]
  · rw [if_neg g, if_neg (by omega)]
theorem given_up {A W n k i : Nat} {wt : Nat → Nat} (h : Num.rk (Num.remP A W wt) n i = k) : given A W wt n (k + 1) i = given A W wt n k i + 1 := by
  unfold given
  rw [if_pos (by omega), if_neg (by omega)]
theorem given_stay {A W n k i : Nat} {wt : Nat → Nat} (h : Num.rk (Num.remP A W wt) n i ≠ k) : given A W wt n (k + 1) i = given A W wt n k i := by
  unfold given
  by_cases g : Num.rk (Num.remP A W wt) n i < k
  · rw [if_pos g, if_pos (by omega)]
  · rw [if_neg g, if_neg (by omega)]
theorem rest_cap {A W n k i : Nat} {wt : Nat → Nat} (h0 : 0 < W) (hW : W < 10 ^ 80) : CapP 80 (red (Num.restP (Num.remP A W wt) W n k i) (W : Nat)) := by
  have h1 : Num.remP A W wt i < W := Nat.mod_lt _ h0
  refine CapP.of_red (by omega) ?_ (by unfold Cap; omega)
  unfold Cap Num.restP
  split <;> omega

/-- the calls on Split's way -/
structure RsData (t : ByteArray) (T : Int) (A W n : Nat) (wt : Nat → Nat) : Prop where
  n0 : 0 < n
  n19 : n ≤ 19
  tA : T.natAbs = A
  w0 : 0 < W
  sumW : Num.sumN wt n = W
  fabs : ∀ i, i < n → Ret 51 #[.agg #[.string (idN T W wt i), .string (idD T W wt i)]] (.agg #[.string (xN A W wt i), .string (xD A W wt i)])
  fflo : ∀ i, i < n → Ret 52 #[.agg #[.string (xN A W wt i), .string (xD A W wt i)]] (.string (cS (Num.quoP A W wt i : Nat)))
  fof : ∀ i, i < n → Ret 54 #[.string (cS (Num.quoP A W wt i : Nat))] (.agg #[.string (cS (Num.quoP A W wt i : Nat)), .string ⟨#[]⟩])
  fsub : ∀ i, i < n → Ret 53 #[.agg #[.string (xN A W wt i), .string (xD A W wt i)], .agg #[.string (cS (Num.quoP A W wt i : Nat)), .string ⟨#[]⟩]] (.agg #[.string (rN A W wt n 0 i), .string (rD A W wt n 0 i)])
  gof : Ret 54 #[.string t] (.agg #[.string t, .string ⟨#[]⟩])
  gabs : Ret 51 #[.agg #[.string t, .string ⟨#[]⟩]] (.agg #[.string (cS (A : Nat)), .string ⟨#[]⟩])
  gflo : Ret 52 #[.agg #[.string (cS (A : Nat)), .string ⟨#[]⟩]] (.string (cS (A : Nat)))
  gsum : ∀ W' xa cap, Rs W' xa n (fun i => cS (Num.quoP A W wt i : Nat)) → Calls Tryz.prog 57 #[.slice xa n cap] W' (StrPost W' (Num.sumN (Num.quoP A W wt) n : Nat))
  gsub : Ret 56 #[.string (cS (A : Nat)), .string (cS (Num.sumN (Num.quoP A W wt) n : Nat))] (.string (cS (Num.missP A W wt n : Nat)))
  gsmall : Ret 55 #[.string (cS (Num.missP A W wt n : Nat))] (.tuple #[.int .i64 (Num.missP A W wt n : Nat), .bool true])
  missn : Num.missP A W wt n ≤ n
  lcmp : ∀ k i j, i < n → j < n → ∃ c : Int, Ret 58 #[.agg #[.string (rN A W wt n k i), .string (rD A W wt n k i)], .agg #[.string (rN A W wt n k j), .string (rD A W wt n k j)]] (.int .i64 c) ∧ ((c = 1 ∧ Num.restP (Num.remP A W wt) W n k j < Num.restP (Num.remP A W wt) W n k i) ∨ (c = 0 ∧ Num.restP (Num.remP A W wt) W n k i ≤ Num.restP (Num.remP A W wt) W n k j) ∨ (c = -1 ∧ Num.restP (Num.remP A W wt) W n k i ≤ Num.restP (Num.remP A W wt) W n k j))
  ladd : ∀ k i, i < n → Num.rk (Num.remP A W wt) n i = k → Ret 59 #[.string (cS (given A W wt n k i : Nat)), .string ⟨#[49]⟩] (.string (cS (given A W wt n (k + 1) i : Nat)))
  lof : Ret 54 #[.string ⟨#[49]⟩] (.agg #[.string ⟨#[49]⟩, .string ⟨#[]⟩])
  lsub : ∀ k i, i < n → Num.rk (Num.remP A W wt) n i = k → Ret 53 #[.agg #[.string (rN A W wt n k i), .string (rD A W wt n k i)], .agg #[.string ⟨#[49]⟩, .string ⟨#[]⟩]] (.agg #[.string (rN A W wt n (k + 1) i), .string (rD A W wt n (k + 1) i)])
  tneg : ∀ W', Calls Tryz.prog 60 #[.string t] W' fun e w' => e = .returned (.bool (decide (T < 0))) ∧ W' = w'
  nneg : ∀ k i, i < n → ∀ W', Calls Tryz.prog 61 #[.string (cS (given A W wt n k i : Nat))] W' fun e w' => e = .returned (.string (cS (-(given A W wt n k i : Nat)))) ∧ W' = w'

theorem rs_data {t : ByteArray} {T : Int} {A W n : Nat} {wt : Nat → Nat} (htT : t = cS T) (ht1 : t.size ≤ 30) (hA : T.natAbs = A) (hn0 : 0 < n) (hn : n ≤ 19) (hW : Num.sumN wt n = W) (h0 : 0 < W) (hWc : W < 10 ^ 80) : RsData t T A W n wt := by
  have hW0 : (0 : Int) < (W : Nat) := by omega
  have hv : vS t = T := by rw [htT, vS_cS]
  have hTc : Cap 30 T := Cap.of ht1 hv
  have hAc : A < 10 ^ 30 := by unfold Cap at hTc; omega
  have hwc : ∀ i, i < n → wt i < 10 ^ 80 := fun i hi => by have := sumN_at (f := wt) hi; omega
  have hidc : ∀ i, i < n → CapP 110 (idl T W wt i) := fun i hi => CapP.of_red hW0 (Cap.mul (k := 30) (l := 80) hTc (by have := hwc i hi; unfold Cap; omega)) (Cap.mono (k := 80) (by unfold Cap; omega) (by decide))
  have hxc : ∀ i, i < n → CapP 110 (red ((A : Int) * (wt i : Nat)) (W : Nat)) := fun i hi => CapP.of_red hW0 (Cap.mul (k := 30) (l := 80) (show Cap 30 (A : Int) by unfold Cap; omega) (by have := hwc i hi; unfold Cap; omega)) (Cap.mono (k := 80) (by unfold Cap; omega) (by decide))
  have hq : ∀ i, i < n → Num.quoP A W wt i < 10 ^ 110 := fun i hi => by
    refine Nat.lt_of_le_of_lt (Nat.div_le_self _ _) ?_
    rw [show (110 : Nat) = 30 + 80 from rfl, Nat.pow_add]
    exact Nat.mul_lt_mul'' hAc (hwc i hi)
  have hqs : ∀ i, i < n → (cS (Num.quoP A W wt i : Nat)).size ≤ 111 := fun i hi => cS_size (by have := hq i hi; omega)
  have hgs : ∀ k i, i < n → (cS (given A W wt n k i : Nat)).size ≤ 112 := fun k i hi => cS_size (k := 111) (by have := hq i hi; unfold given; split <;> omega)
  have hAs : (cS (A : Nat)).size ≤ 31 := cS_size (by omega)
  have hle := Num.quo_le (T := A) hW h0
  have hsq : (cS (Num.sumN (Num.quoP A W wt) n : Nat)).size ≤ 31 := cS_size (by omega)
  have hmn : Num.missP A W wt n ≤ n := Num.miss_le_n hW h0
  refine ⟨hn0, hn, hA, h0, hW, fun i hi => ?_, fun i hi W' hG => ?_, fun i hi W' hG => ?_, fun i hi W' hG => ?_, fun W' hG => ?_, ?_, fun W' hG => ?_, fun W' xa cap hr => ?_, fun W' hG => ?_, fun W' hG => ?_, hmn, fun k i j hi hj => ?_, fun k i hi hk W' hG => ?_, fun W' hG => ?_, fun k i hi hk W' hG => ?_, fun W' => ?_, fun k i hi W' => ?_⟩
  · have h1 := rAbs (p := idl T W wt i) (red_pos hW0) (hidc i hi) (by decide)
    rw [show absP (idl T W wt i) = red ((A : Int) * (wt i : Nat)) (W : Nat) by unfold idl; rw [absP_red hW0, Int.natAbs_mul, Int.natAbs_natCast, hA, Int.natCast_mul]] at h1
    exact h1
  · have s1 := cS_size (hxc i hi).1
    have s2 := cD_size (hxc i hi).2
    have h1 := qFloor_any (xN A W wt i) (xD A W wt i) W' hG (by unfold xN; omega) (by unfold xD; omega)
    rw [show raw (xN A W wt i) (xD A W wt i) = red ((A : Int) * (wt i : Nat)) (W : Nat) from raw_red hW0, floor_congr (y := ((A : Int) * (wt i : Nat), (W : Nat))) (red_pos hW0) hW0 (same_red _ _), ← Int.natCast_mul, nat_fdiv] at h1
    exact h1
  · exact qOf_any W' (by have := hqs i hi; omega) (vS_cS _)
  · have s1 := cS_size (hxc i hi).1
    have s2 := cD_size (hxc i hi).2
    have h1 := qSub_any (xN A W wt i) (xD A W wt i) (cS (Num.quoP A W wt i : Nat)) ⟨#[]⟩ W' hG (by unfold xN; omega) (by unfold xD; omega) (by have := hqs i hi; omega) (by decide)
    rw [raw_int, show raw (xN A W wt i) (xD A W wt i) = red ((A : Int) * (wt i : Nat)) (W : Nat) from raw_red hW0, less_red hW0, show (A : Int) * (wt i : Nat) - (Num.quoP A W wt i : Nat) * (W : Nat) = Num.restP (Num.remP A W wt) W n 0 i by
      unfold Num.restP Num.quoP Num.remP
      rw [if_neg (by omega), ← Int.natCast_mul, ← Int.natCast_mul]
      have := Nat.div_add_mod (A * wt i) W
      rw [Nat.mul_comm] at this
      omega] at h1
    exact h1
  · have h1 := qOf_any (a := t) (x := T) W' (by omega) hv
    rwa [← htT] at h1
  · have h1 := rAbs (p := (T, 1)) (k := 30) Int.one_pos ⟨hTc, Cap.one (by decide)⟩ (by decide)
    rw [absP_int, hA] at h1
    dsimp only at h1
    rwa [cD_one, ← htT] at h1
  · have h1 := qFloor_any (cS (A : Nat)) ⟨#[]⟩ W' hG (by omega) (by decide)
    rw [raw_int] at h1
    dsimp only at h1
    rwa [show Int.fdiv (A : Int) 1 = (A : Int) from Int.fdiv_one _] at h1
  · have h1 := rSumR xa n cap (fun i => cS (Num.quoP A W wt i : Nat)) W' hr ⟨by omega, fun i hi => by have := hqs i hi; omega⟩
    rwa [sumS_cS] at h1
  · have h1 := rSub_any (cS (A : Nat)) (cS (Num.sumN (Num.quoP A W wt) n : Nat)) W' (by omega) (by omega)
    rw [vS_cS, vS_cS, show (A : Int) - (Num.sumN (Num.quoP A W wt) n : Nat) = (Num.missP A W wt n : Nat) by unfold Num.missP; omega] at h1
    exact h1
  · have h1 := rSmall_any (cS (Num.missP A W wt n : Nat)) W' (by have := cS_size (z := (Num.missP A W wt n : Nat)) (k := 30) (by omega); omega)
    unfold SmallPost at h1
    rw [vS_cS, if_pos (by unfold fits; simp; omega)] at h1
    exact h1.mono fun _ _ h => ⟨h.1, h.2 ▸ Below.refl _ _⟩
  · refine ⟨cmpP (red (Num.restP (Num.remP A W wt) W n k i) (W : Nat)) (red (Num.restP (Num.remP A W wt) W n k j) (W : Nat)), fun W' hG => ?_, ?_⟩
    · have c1 := rest_cap (A := A) (wt := wt) (n := n) (k := k) (i := i) h0 hWc
      have c2 := rest_cap (A := A) (wt := wt) (n := n) (k := k) (i := j) h0 hWc
      have s1 := cS_size c1.1
      have s2 := cD_size c1.2
      have s3 := cS_size c2.1
      have s4 := cD_size c2.2
      have h1 := qCompare_any (rN A W wt n k i) (rD A W wt n k i) (rN A W wt n k j) (rD A W wt n k j) W' hG (by unfold rN; omega) (by unfold rD; omega) (by unfold rN; omega) (by unfold rD; omega)
      unfold rN rD at h1 ⊢
      rwa [raw_red hW0, raw_red hW0] at h1
    · rw [cmpP_congr (z := (Num.restP (Num.remP A W wt) W n k i, (W : Nat))) (w := (Num.restP (Num.remP A W wt) W n k j, (W : Nat))) (red_pos hW0) (red_pos hW0) hW0 hW0 (same_red _ _) (same_red _ _)]
      unfold cmpP cmp3
      dsimp only
      obtain ⟨x, hx⟩ : ∃ x, Num.restP (Num.remP A W wt) W n k i = x := ⟨_, rfl⟩
      obtain ⟨y, hy⟩ : ∃ y, Num.restP (Num.remP A W wt) W n k j = y := ⟨_, rfl⟩
      rw [hx, hy]
      rcases Int.lt_or_le y x with e | e
      · have h1 := Int.mul_lt_mul_of_pos_right e hW0
        rw [if_neg (by omega), if_pos h1]
        exact Or.inl ⟨rfl, e⟩
      · have h1 := Int.mul_le_mul_of_nonneg_right e (Int.le_of_lt hW0)
        by_cases g : x * (W : Int) < y * (W : Int)
        · rw [if_pos g]
          exact Or.inr (Or.inr ⟨rfl, e⟩)
        · rw [if_neg g, if_neg (by omega)]
          exact Or.inr (Or.inl ⟨rfl, e⟩)
  · have h1 := rAdd_any (cS (given A W wt n k i : Nat)) ⟨#[49]⟩ W' (by have := hgs k i hi; omega) (by decide)
    rw [vS_cS, vS_one, show ((given A W wt n k i : Nat) : Int) + 1 = (given A W wt n (k + 1) i : Nat) by rw [given_up hk]; omega] at h1
    exact h1
  · have h1 := qOf_any (a := ⟨#[49]⟩) (x := 1) W' (by decide) vS_one
    rwa [cS_one] at h1
  · have c1 := rest_cap (A := A) (wt := wt) (n := n) (k := k) (i := i) h0 hWc
    have s1 := cS_size c1.1
    have s2 := cD_size c1.2
    have h1 := qSub_any (rN A W wt n k i) (rD A W wt n k i) ⟨#[49]⟩ ⟨#[]⟩ W' hG (by unfold rN; omega) (by unfold rD; omega) (by decide) (by decide)
    rw [show raw (rN A W wt n k i) (rD A W wt n k i) = red (Num.restP (Num.remP A W wt) W n k i) (W : Nat) from raw_red hW0, show raw ⟨#[49]⟩ ⟨#[]⟩ = ((1 : Int), (1 : Int)) by have := raw_int 1; rwa [cS_one] at this, less_red hW0, Int.one_mul, ← rest_next hk] at h1
    exact h1
  · exact rNegative (by omega) hv W'
  · have h1 := rNeg_any (cS (given A W wt n k i : Nat)) W' (by have := hgs k i hi; omega)
    rwa [vS_cS] at h1

end Go.Proofs.YthhihdihkddakaaGreatDoor
