/- the law AllocateSums: the walk. -/
import Derived.Test.YthhihdihkddakaaGreatDoorLB
namespace Go.Proofs.YthhihdihkddakaaGreatDoor
open Go.RowKit

/-- Great of the total alone, of the weights -/
theorem great1 (t : ByteArray) : great 1 (litS [t]) = over t := by unfold great; simp [List.range, List.range.loop, litS]
theorem split_sumS {t : ByteArray} {n : Nat} {s : Nat → ByteArray} (h : Data t n s) : sumS (fun i => cS (Num.splitP (vS t) (Num.sumN (wtN s) n) (wtN s) n i)) n = vS t := by
  obtain ⟨c, hd⟩ := h.div
  unfold sumS
  simp only [vS_cS]
  exact Num.split_sum rfl hd.w0
theorem run_sumS {t : ByteArray} {n : Nat} {s : Nat → ByteArray} (h : Data t n s) : sumS (fun i => cS (Num.runP (vS t) (Num.sumN (wtN s) n) (wtN s) i)) n = vS t := by
  obtain ⟨c, hd⟩ := h.div
  unfold sumS
  simp only [vS_cS]
  exact Num.run_sum rfl hd.w0
theorem near_of {T x : Int} {W m : Nat} (h : (W : Int) * x < T * m + W ∧ T * m < (W : Int) * x + W) : nearP T W x m = true := by
  refine decide_eq_true ?_
  rw [Int.mul_comm x]
  omega
/-- parts of at most 31 digits: a part is at most the total and one -/
theorem DivAt.near_cap {W n d k : Nat} {wt : Nat → Nat} {T x : Int} (h : DivAt T.natAbs W n wt d) {i : Nat} (hi : i < n) (hx : (W : Int) * x < T * wt i + W ∧ T * wt i < (W : Int) * x + W) (hT : Cap k T) (hk : 1 ≤ k) : Cap (k + 1) x := by
  have h0 := h.w0
  have hw : (wt i : Int) ≤ (W : Int) := by have := sumN_at (f := wt) hi; have := h.sum; omega
  have h1 : T * wt i ≤ (T.natAbs : Int) * W := by
    refine Int.le_trans (Int.mul_le_mul_of_nonneg_right (show T ≤ (T.natAbs : Int) by omega) (by omega)) ?_
    exact Int.mul_le_mul_of_nonneg_left hw (by omega)
  have h2 : -((T.natAbs : Int) * W) ≤ T * wt i := by
    have : -(T * wt i) ≤ (T.natAbs : Int) * W := by
      rw [← Int.neg_mul]
      refine Int.le_trans (Int.mul_le_mul_of_nonneg_right (show -T ≤ (T.natAbs : Int) by omega) (by omega)) ?_
      exact Int.mul_le_mul_of_nonneg_left hw (by omega)
    omega
  have h3 : (W : Int) * x < (W : Int) * ((T.natAbs : Int) + 1) := by rw [Int.mul_add, Int.mul_comm (W : Int) (T.natAbs : Int), Int.mul_one]; omega
  have h4 : (W : Int) * (-((T.natAbs : Int) + 1)) < (W : Int) * x := by rw [Int.mul_neg, Int.mul_add, Int.mul_comm (W : Int) (T.natAbs : Int), Int.mul_one]; omega
  have h5 := Int.lt_of_mul_lt_mul_left h3 (by omega)
  have h6 := Int.lt_of_mul_lt_mul_left h4 (by omega)
  have h7 : T.natAbs < 10 ^ k := hT
  unfold Cap
  rw [Nat.pow_succ]
  have : 10 ≤ 10 ^ k := by have := Nat.pow_le_pow_right (show 0 < 10 by decide) hk; omega
  omega
theorem eq_nil_str {s : ByteArray} (h : (s.toList == []) = true) : s = ⟨#[]⟩ := by
  rw [show ([] : List UInt8) = (ByteArray.mk #[]).toList by decide +kernel, beq_toList] at h
  exact of_decide_eq_true h
theorem ne_nil_str {s : ByteArray} (h : s ≠ ⟨#[]⟩) : (s.toList == []) = false := by
  rw [show ([] : List UInt8) = (ByteArray.mk #[]).toList by decide +kernel, beq_toList]
  exact decide_eq_false h

set_option maxRecDepth 100000 in
set_option maxHeartbeats 16000000 in
theorem asu_long1 (t : ByteArray) (xa : Option Addr) (n cap : Nat) (w : World) (hG : Ground w) (ht : over t = true) :
    Calls Tryz.prog 6 #[.string t, .slice xa n cap] w fun e w' => e = .returned (.bool true) ∧ Below w.heap.size w w' := by
  have HL := Lib.hid (rGreat_lit w hG [t] (by simp))
  simp only [List.length_cons, List.length_nil, Nat.zero_add, List.map_cons, List.map_nil] at HL
  rw [great1, ht] at HL
  have HG := Lib.hid hG
  have HAW := Lib.hid aawake
  clear ht hG
  go_enter Tryz.func6, Tryz.ntmps6
  go_wp2_with fail
  refine HL.out.mono ?_
  rintro _ w0 ⟨rfl, hb⟩
  go_wp2_with fail
  refine (HAW.out _ (HG.out.below hb)).mono ?_
  rintro _ _ ⟨rfl, hB⟩
  replace hb := hb.trans (hB.mono hb.size)
  clear hB
  go_wp2_with fail
  go_ret
  exact ⟨rfl, hb⟩

set_option maxRecDepth 100000 in
set_option maxHeartbeats 16000000 in
theorem asu_long2 (t : ByteArray) (xa : Option Addr) (n cap : Nat) (s : Nat → ByteArray) (w : World) (hG : Ground w) (hr : Rs w xa n s) (hmax : n ≤ 9223372036854775807) (ht : over t = false) (hl : great n s = true) :
    Calls Tryz.prog 6 #[.string t, .slice xa n cap] w fun e w' => e = .returned (.bool true) ∧ Below w.heap.size w w' := by
  have HL := Lib.hid (rGreat_lit w hG [t] (by simp))
  simp only [List.length_cons, List.length_nil, Nat.zero_add, List.map_cons, List.map_nil] at HL
  rw [great1, ht] at HL
  have HG := Lib.hid hG
  have HAW := Lib.hid aawake
  have HR := Lib.hid hr
  have HGR := Lib.hid (fun W hG hr => rGreat W hG xa n cap s hr hmax)
  rw [hl] at HGR
  clear ht hG hr hmax hl
  go_enter Tryz.func6, Tryz.ntmps6
  go_wp2_with fail
  refine HL.out.mono ?_
  rintro _ w0 ⟨rfl, hb⟩
  go_wp2_with fail
  refine (HGR.out _ (HG.out.below hb) (HR.out.belowAt hb (Nat.le_refl _))).mono ?_
  rintro _ _ ⟨rfl, hB⟩
  replace hb := hb.trans (hB.mono hb.size)
  clear hB
  go_wp2_with fail
  refine (HAW.out _ (HG.out.below hb)).mono ?_
  rintro _ _ ⟨rfl, hB⟩
  replace hb := hb.trans (hB.mono hb.size)
  clear hB
  go_wp2_with fail
  go_ret
  exact ⟨rfl, hb⟩

set_option maxRecDepth 100000 in
set_option maxHeartbeats 16000000 in
theorem asu_bad (t : ByteArray) (xa : Option Addr) (n cap : Nat) (s : Nat → ByteArray) (w : World) (hG : Ground w) (hr : Rs w xa n s) (hmax : n ≤ 9223372036854775807) (ht : over t = false) (hl : great n s = false) (hf : FitW n t s) (h : weighE t n s ≠ 0) :
    Calls Tryz.prog 6 #[.string t, .slice xa n cap] w fun e w' => e = .returned (.bool true) ∧ Below w.heap.size w w' := by
  have HL := Lib.hid (rGreat_lit w hG [t] (by simp))
  simp only [List.length_cons, List.length_nil, Nat.zero_add, List.map_cons, List.map_nil] at HL
  rw [great1, ht] at HL
  have HG := Lib.hid hG
  have HAW := Lib.hid aawake
  have HR := Lib.hid hr
  have HGR := Lib.hid (fun W hG hr => rGreat W hG xa n cap s hr hmax)
  rw [hl] at HGR
  have HS := Lib.hid (fun W hG hr => aSplit_bad W hG t xa n cap s hr hf h)
  have HN := Lib.hid (fun W hG hr => aRun_bad W hG t xa n cap s hr hf h)
  obtain ⟨c, hc⟩ : ∃ c, weighE t n s = c := ⟨_, rfl⟩
  rw [hc] at HS HN
  have hb1 : (c != 0) = true := by rw [bne_iff_ne, ← hc]; exact h
  unfold nilE at HS HN
  clear ht hG hr hmax hl hf h hc
  go_enter Tryz.func6, Tryz.ntmps6
  go_wp2_with fail
  refine HL.out.mono ?_
  rintro _ w0 ⟨rfl, hb⟩
  go_wp2_with fail
  refine (HGR.out _ (HG.out.below hb) (HR.out.belowAt hb (Nat.le_refl _))).mono ?_
  rintro _ _ ⟨rfl, hB⟩
  replace hb := hb.trans (hB.mono hb.size)
  clear hB
  go_wp2_with fail
  refine (HS.out _ (HG.out.below hb) (HR.out.belowAt hb (Nat.le_refl _))).mono ?_
  rintro _ _ ⟨rfl, hB⟩
  replace hb := hb.trans (hB.mono hb.size)
  clear hB
  go_wp2_with fail
  refine (HN.out _ (HG.out.below hb) (HR.out.belowAt hb (Nat.le_refl _))).mono ?_
  rintro _ _ ⟨rfl, hB⟩
  replace hb := hb.trans (hB.mono hb.size)
  clear hB
  go_wp2_with fail
  refine (HAW.out _ (HG.out.below hb)).mono ?_
  rintro _ _ ⟨rfl, hB⟩
  replace hb := hb.trans (hB.mono hb.size)
  clear hB
  go_wp2_with fail
  go_ret
  exact ⟨rfl, hb⟩

set_option maxRecDepth 100000 in
set_option maxHeartbeats 16000000 in
theorem asu_ok (t : ByteArray) (xa : Option Addr) (n cap : Nat) (s : Nat → ByteArray) (w : World) (hG : Ground w) (hr : Rs w xa n s) (hmax : n ≤ 9223372036854775807) (ht : over t = false) (hl : great n s = false) (hf : FitW n t s) (h : weighE t n s = 0) (ht30 : t.size ≤ 30) :
    Calls Tryz.prog 6 #[.string t, .slice xa n cap] w fun e w' => e = .returned (.bool true) ∧ Below w.heap.size w w' := by
  have HL := Lib.hid (rGreat_lit w hG [t] (by simp))
  simp only [List.length_cons, List.length_nil, Nat.zero_add, List.map_cons, List.map_nil] at HL
  rw [great1, ht] at HL
  have HG := Lib.hid hG
  have HAW := Lib.hid aawake
  have HR := Lib.hid hr
  have HGR := Lib.hid (fun W hG hr => rGreat W hG xa n cap s hr hmax)
  rw [hl] at HGR
  have hd := (weighE_zero h).data hf
  obtain ⟨c, hdiv⟩ := hd.div
  have hn := hdiv.few
  have HS := Lib.hid (fun W hG hr => aSplit_ok W hG t xa n cap s hr hf h)
  have HN := Lib.hid (fun W hG hr => aRun_ok W hG t xa n cap s hr hf h)
  have hsa := split_sumS hd
  have hsb := run_sumS hd
  have hna : ∀ i, i < n → nearP (vS t) (Num.sumN (wtN s) n) (Num.splitP (vS t) (Num.sumN (wtN s) n) (wtN s) n i) (wtN s i) = true := fun i _ => near_of (Num.split_near rfl hdiv.w0)
  have hnb : ∀ i, i < n → nearP (vS t) (Num.sumN (wtN s) n) (Num.runP (vS t) (Num.sumN (wtN s) n) (wtN s) i) (wtN s i) = true := fun i _ => near_of (Num.run_near hdiv.w0)
  have hca : ∀ i, i < n → Cap 31 (Num.splitP (vS t) (Num.sumN (wtN s) n) (wtN s) n i) := fun i hi => hdiv.near_cap hi (Num.split_near rfl hdiv.w0) (Cap.of ht30 rfl) (by decide)
  have hcb : ∀ i, i < n → Cap 31 (Num.runP (vS t) (Num.sumN (wtN s) n) (wtN s) i) := fun i hi => hdiv.near_cap hi (Num.run_near hdiv.w0) (Cap.of ht30 rfl) (by decide)
  have hza : ∀ i, i < n → wtN s i = 0 → Num.splitP (vS t) (Num.sumN (wtN s) n) (wtN s) n i = 0 := fun i _ hz => Num.split_zero rfl hdiv.w0 hz
  have hzb : ∀ i, i < n → wtN s i = 0 → Num.runP (vS t) (Num.sumN (wtN s) n) (wtN s) i = 0 := fun i _ hz => Num.run_zero hz
  obtain ⟨A, hA⟩ : ∃ A, Num.splitP (vS t) (Num.sumN (wtN s) n) (wtN s) n = A := ⟨_, rfl⟩
  obtain ⟨B, hB⟩ : ∃ B, Num.runP (vS t) (Num.sumN (wtN s) n) (wtN s) = B := ⟨_, rfl⟩
  rw [hA] at HS hsa hna hca hza
  rw [hB] at HN hsb hnb hcb hzb
  have fa : Fit n 31 (fun i => cS (A i)) := ⟨by omega, by decide, by decide, fun i hi => by rw [vS_cS]; exact hca i hi, fun i hi => by have := cS_size (hca i hi); omega⟩
  have fb : Fit n 31 (fun i => cS (B i)) := ⟨by omega, by decide, by decide, fun i hi => by rw [vS_cS]; exact hcb i hi, fun i hi => by have := cS_size (hcb i hi); omega⟩
  have HSA := Lib.hid (fun W P hG hr => rSum (some ⟨P, 0, none⟩) n n 31 _ W hG hr fa)
  have HSB := Lib.hid (fun W P hG hr => rSum (some ⟨P, 0, none⟩) n n 31 _ W hG hr fb)
  rw [hsa, ] at HSA
  rw [hsb] at HSB
  unfold StrPost at HSA HSB
  rw [← hd.total] at HSA HSB
  have ca : checkE t n s n (fun i => cS (A i)) = 0 := by
    unfold checkE
    rw [if_neg (by omega), if_neg (by omega), if_neg (by rw [allC_iff.2 (fun i _ => cS_can _)]; decide), if_neg (by omega), if_pos (nearS_true fun i hi => by rw [vS_cS]; exact hna i hi)]
  have cb : checkE t n s n (fun i => cS (B i)) = 0 := by
    unfold checkE
    rw [if_neg (by omega), if_neg (by omega), if_neg (by rw [allC_iff.2 (fun i _ => cS_can _)]; decide), if_neg (by omega), if_pos (nearS_true fun i hi => by rw [vS_cS]; exact hnb i hi)]
  have HCA := Lib.hid (fun W P hG hr hp => aCheck W hG t xa (some ⟨P, 0, none⟩) n n cap n s (fun i => cS (A i)) hr hf hp (fun _ i hi => by have := cS_size (hca i hi); omega))
  have HCB := Lib.hid (fun W P hG hr hp => aCheck W hG t xa (some ⟨P, 0, none⟩) n n cap n s (fun i => cS (B i)) hr hf hp (fun _ i hi => by have := cS_size (hcb i hi); omega))
  rw [ca] at HCA
  rw [cb] at HCB
  have HZA := Lib.hid (show ∀ i, i < n → s i = ⟨#[]⟩ → cS (A i) = ⟨#[]⟩ from fun i hi e => by rw [hza i hi (by unfold wtN; rw [e, vS_nil]; rfl), cS_zero])
  have HZB := Lib.hid (show ∀ i, i < n → s i = ⟨#[]⟩ → cS (B i) = ⟨#[]⟩ from fun i hi e => by rw [hzb i hi (by unfold wtN; rw [e, vS_nil]; rfl), cS_zero])
  clear ht hG hr hmax hl hf h hd hdiv hsa hsb hna hnb hca hcb hza hzb hA hB fa fb ca cb
  go_enter Tryz.func6, Tryz.ntmps6
  go_wp2_with fail
  refine HL.out.mono ?_
  rintro _ w0 ⟨rfl, hb⟩
  go_wp2_with fail
  refine (HGR.out _ (HG.out.below hb) (HR.out.belowAt hb (Nat.le_refl _))).mono ?_
  rintro _ _ ⟨rfl, hB⟩
  replace hb := hb.trans (hB.mono hb.size)
  clear hB
  go_wp2_with fail
  refine (HS.out _ (HG.out.below hb) (HR.out.belowAt hb (Nat.le_refl _))).mono ?_
  rintro _ w2 ⟨P, rfl, hP, hB⟩
  have hp : Rs w2 (some ⟨P, 0, none⟩) n (fun i => cS (A i)) := hP.rc
  replace hb := hb.trans (hB.mono hb.size)
  clear hB hP HS
  go_wp2_with fail
  refine (HN.out _ (HG.out.below hb) (HR.out.belowAt hb (Nat.le_refl _))).mono ?_
  rintro _ w3 ⟨Q, rfl, hQ, hB⟩
  replace hp := hp.below hB
  have hq : Rs w3 (some ⟨Q, 0, none⟩) n (fun i => cS (B i)) := hQ.rc
  replace hb := hb.trans (hB.mono hb.size)
  clear hB hQ HN
  go_wp2_with fail
  refine (HSA.out _ P (HG.out.below hb) hp).mono ?_
  rintro _ w4 ⟨rfl, hB⟩
  replace hp := hp.below hB
  replace hq := hq.below hB
  replace hb := hb.trans (hB.mono hb.size)
  clear hB HSA
  go_wp2_with fail
  refine (HSB.out _ Q (HG.out.below hb) hq).mono ?_
  rintro _ w5 ⟨rfl, hB⟩
  replace hp := hp.below hB
  replace hq := hq.below hB
  replace hb := hb.trans (hB.mono hb.size)
  clear hB HSB
  go_wp2_with fail
  go_loopw [71] (fun iv wr => ∃ k : Nat, k ≤ n ∧ iv = .int .i64 (k : Int) ∧ wr = w5) (fun iv _ => n - (intOf iv).toNat)
  case atStart => exact ⟨0, Nat.zero_le _, rfl, rfl⟩
  case round =>
    obtain ⟨k, hk, rfl, rfl⟩ := hrel
    by_cases hlt : k < n
    · obtain ⟨b, o, rfl, hbb, hck⟩ := Rs.at (HR.out.belowAt hb (Nat.le_refl _)) hlt
      have cP : wr.cell? ⟨P, k, none⟩ = some (.string (cS (A k))) := by
        obtain ⟨b2, o2, e, _, hc⟩ := hp.sl (by omega)
        cases e
        have := hc k hlt
        rwa [Nat.zero_add] at this
      have cQ : wr.cell? ⟨Q, k, none⟩ = some (.string (cS (B k))) := by
        obtain ⟨b2, o2, e, _, hc⟩ := hq.sl (by omega)
        cases e
        have := hc k hlt
        rwa [Nat.zero_add] at this
      have HBB := Lib.hid hb
      have HPP := Lib.hid hp
      have HQQ := Lib.hid hq
      by_cases hz : s k = ⟨#[]⟩
      · rw [HZA.out k hlt hz] at cP
        rw [HZB.out k hlt hz] at cQ
        rw [hz] at hck
        clear hb hp hq hz hbb
        go_wp2_with fail
        go_roundw
        case rel => exact ⟨k + 1, by omega, by simp, trivial⟩
        case measure => simp [intOf]; omega
      · have hne := ne_nil_str hz
        obtain ⟨sk, hsk⟩ : ∃ sk, s k = sk := ⟨_, rfl⟩
        rw [hsk] at hck hne
        clear hb hp hq hz hbb hsk cP cQ
        go_wp2_with fail
        go_roundw
        case rel => exact ⟨k + 1, by omega, by simp, trivial⟩
        case measure => simp [intOf]; omega
    · obtain rfl : k = n := by omega
      go_wp2_with fail
      refine (HCA.out _ P (HG.out.below hb) (HR.out.belowAt hb (Nat.le_refl _)) hp).mono ?_
      rintro _ w6 ⟨rfl, hB⟩
      replace hq := hq.below hB
      replace hb := hb.trans (hB.mono hb.size)
      clear hB HCA hp
      go_wp2_with fail
      refine (HCB.out _ Q (HG.out.below hb) (HR.out.belowAt hb (Nat.le_refl _)) hq).mono ?_
      rintro _ w7 ⟨rfl, hB⟩
      replace hb := hb.trans (hB.mono hb.size)
      clear hB HCB hq
      go_wp2_with fail
      refine (HAW.out _ (HG.out.below hb)).mono ?_
      rintro _ _ ⟨rfl, hB⟩
      replace hb := hb.trans (hB.mono hb.size)
      clear hB
      go_wp2_with fail
      go_ret
      exact ⟨rfl, hb⟩

theorem fitW_of {t : ByteArray} {n : Nat} {s : Nat → ByteArray} (ht : over t = false) (hl : great n s = false) : FitW n t s ∧ t.size ≤ 30 := by
  obtain ⟨h1, h2⟩ := great_false hl
  have h3 : t.size ≤ 30 := by have := of_decide_eq_false ht; omega
  exact ⟨⟨by omega, by omega, by omega, fun _ i hi => by have := h2 i hi; omega⟩, h3⟩
theorem asu_any (t : ByteArray) (xa : Option Addr) (n cap : Nat) (s : Nat → ByteArray) (w : World) (hG : Ground w) (hr : Rs w xa n s) (hmax : n ≤ 9223372036854775807) :
    Calls Tryz.prog 6 #[.string t, .slice xa n cap] w fun e w' => e = .returned (.bool true) ∧ Below w.heap.size w w' := by
  cases ht : over t with
  | true => exact asu_long1 t xa n cap w hG ht
  | false =>
    cases hl : great n s with
    | true => exact asu_long2 t xa n cap s w hG hr hmax ht hl
    | false =>
      obtain ⟨hf, ht30⟩ := fitW_of ht hl
      by_cases h : weighE t n s = 0
      · exact asu_ok t xa n cap s w hG hr hmax ht hl hf h ht30
      · exact asu_bad t xa n cap s w hG hr hmax ht hl hf h

end Go.Proofs.YthhihdihkddakaaGreatDoor
