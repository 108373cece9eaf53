/- the law AllocateScales: the walk. -/
import Derived.Test.YthhihdihkddakaaGreatDoorMBegins
import Derived.Test.YthhihdihkddakaaGreatDoorAF
namespace Go.Proofs.YthhihdihkddakaaGreatDoor
open Go.RowKit Fra

/-- Great of two numbers -/
theorem great2 (t k : ByteArray) : great 2 (litS [t, k]) = (over t || over k) := by unfold great; simp [List.range, List.range.loop, litS]
/-- the weights times K -/
def moreS (K : Nat) (wt : Nat → Nat) (i : Nat) : ByteArray := cS ((K * wt i : Nat) : Int)
theorem wtN_more (K : Nat) (wt : Nat → Nat) : wtN (moreS K wt) = fun i => K * wt i := funext fun i => by unfold wtN moreS; rw [vS_cS]; rfl
theorem sumS_more (K n : Nat) (wt : Nat → Nat) : sumS (moreS K wt) n = ((K * Num.sumN wt n : Nat) : Int) := by
  rw [← Num.sumN_mul]
  exact sumS_cS (f := fun i => K * wt i)
theorem more_good {t : ByteArray} {K n : Nat} {wt : Nat → Nat} (hK : 0 < K) (h0 : 0 < n) (hn : n ≤ 12) (ht : isCan t = true) (hW : 0 < Num.sumN wt n) : weighE t n (moreS K wt) = 0 :=
  weighE_ok h0 (by omega) ht (fun i _ => cS_can _) (fun i _ => by unfold moreS; rw [vS_cS]; omega) (by rw [sumS_more]; have := Nat.mul_pos hK hW; omega)
theorem more_fit {t : ByteArray} {K n a b : Nat} {wt : Nat → Nat} (hn : n ≤ 12) (ht : t.size ≤ 1000) (hK : K < 10 ^ a) (hw : ∀ i, i < n → wt i < 10 ^ b) (hab : a + b ≤ 998) : FitW n t (moreS K wt) :=
  ⟨by omega, by omega, ht, fun _ i hi => by
    have h1 : K * wt i < 10 ^ (a + b) := by rw [Nat.pow_add]; exact Nat.mul_lt_mul'' hK (hw i hi)
    have := cS_size (z := ((K * wt i : Nat) : Int)) (k := a + b) (by omega)
    unfold moreS
    omega⟩

set_option maxRecDepth 100000 in
set_option maxHeartbeats 16000000 in
theorem asc_long1 (t kk : ByteArray) (xa : Option Addr) (n cap : Nat) (w : World) (hG : Ground w) (ht : great 2 (litS [t, kk]) = true) :
    Calls Tryz.prog 8 #[.string t, .slice xa n cap, .string kk] w fun r w' => r = .returned (.bool true) ∧ Below w.heap.size w w' := by
  have HL := Lib.hid (rGreat_lit w hG [t, kk] (by simp))
  simp only [List.length_cons, List.length_nil, Nat.zero_add, Nat.reduceAdd, List.map_cons, List.map_nil] at HL
  rw [ht] at HL
  have HG := Lib.hid hG
  have HAW := Lib.hid aawake
  clear ht hG
  go_enter Tryz.func8, Tryz.ntmps8
  go_wp2_with fail
  refine HL.out.mono ?_
  rintro _ w0 ⟨rfl, hb⟩
  go_wp2_with fail
  refine (HAW.out _ (HG.out.below hb)).mono ?_
  rintro _ _ ⟨rfl, hB⟩
  replace hb := hb.trans (hB.mono hb.size)
  clear hB
  go_wp2_with fail
  go_ret
  exact ⟨rfl, hb⟩

set_option maxRecDepth 100000 in
set_option maxHeartbeats 16000000 in
theorem asc_long2 (t kk : ByteArray) (xa : Option Addr) (n cap : Nat) (s : Nat → ByteArray) (w : World) (hG : Ground w) (hr : Rs w xa n s) (hmax : n ≤ 9223372036854775807) (ht : great 2 (litS [t, kk]) = false) (hl : great n s = true) :
    Calls Tryz.prog 8 #[.string t, .slice xa n cap, .string kk] w fun r w' => r = .returned (.bool true) ∧ Below w.heap.size w w' := by
  have HL := Lib.hid (rGreat_lit w hG [t, kk] (by simp))
  simp only [List.length_cons, List.length_nil, Nat.zero_add, Nat.reduceAdd, List.map_cons, List.map_nil] at HL
  rw [ht] at HL
  have HG := Lib.hid hG
  have HAW := Lib.hid aawake
  have HR := Lib.hid hr
  have HGR := Lib.hid (fun W hG hr => rGreat W hG xa n cap s hr hmax)
  rw [hl] at HGR
  clear ht hG hr hmax hl
  go_enter Tryz.func8, Tryz.ntmps8
  go_wp2_with fail
  refine HL.out.mono ?_
  rintro _ w0 ⟨rfl, hb⟩
  go_wp2_with fail
  refine (HGR.out _ (HG.out.below hb) (HR.out.belowAt hb (Nat.le_refl _))).mono ?_
  rintro _ _ ⟨rfl, hB⟩
  replace hb := hb.trans (hB.mono hb.size)
  clear hB
  go_wp2_with fail
  refine (HAW.out _ (HG.out.below hb)).mono ?_
  rintro _ _ ⟨rfl, hB⟩
  replace hb := hb.trans (hB.mono hb.size)
  clear hB
  go_wp2_with fail
  go_ret
  exact ⟨rfl, hb⟩

set_option maxRecDepth 100000 in
set_option maxHeartbeats 16000000 in
theorem asc_many (t kk : ByteArray) (xa : Option Addr) (n cap : Nat) (s : Nat → ByteArray) (w : World) (hG : Ground w) (hr : Rs w xa n s) (hmax : n ≤ 9223372036854775807) (ht : great 2 (litS [t, kk]) = false) (hl : great n s = false) (h6 : 6 < n) :
    Calls Tryz.prog 8 #[.string t, .slice xa n cap, .string kk] w fun r w' => r = .returned (.bool true) ∧ Below w.heap.size w w' := by
  have HL := Lib.hid (rGreat_lit w hG [t, kk] (by simp))
  simp only [List.length_cons, List.length_nil, Nat.zero_add, Nat.reduceAdd, List.map_cons, List.map_nil] at HL
  rw [ht] at HL
  have HG := Lib.hid hG
  have HAW := Lib.hid aawake
  have HR := Lib.hid hr
  have HGR := Lib.hid (fun W hG hr => rGreat W hG xa n cap s hr hmax)
  rw [hl] at HGR
  have hi : (6 : Int) < n := by omega
  clear ht hG hr hmax hl h6
  go_enter Tryz.func8, Tryz.ntmps8
  go_wp2_with fail
  refine HL.out.mono ?_
  rintro _ w0 ⟨rfl, hb⟩
  go_wp2_with fail
  refine (HGR.out _ (HG.out.below hb) (HR.out.belowAt hb (Nat.le_refl _))).mono ?_
  rintro _ _ ⟨rfl, hB⟩
  replace hb := hb.trans (hB.mono hb.size)
  clear hB
  go_wp2_with fail
  refine (HAW.out _ (HG.out.below hb)).mono ?_
  rintro _ _ ⟨rfl, hB⟩
  replace hb := hb.trans (hB.mono hb.size)
  clear hB
  go_wp2_with fail
  go_ret
  exact ⟨rfl, hb⟩

set_option maxRecDepth 100000 in
set_option maxHeartbeats 16000000 in
theorem asc_low (t kk : ByteArray) (xa : Option Addr) (n cap : Nat) (s : Nat → ByteArray) (w : World) (hG : Ground w) (hr : Rs w xa n s) (hmax : n ≤ 9223372036854775807) (ht : great 2 (litS [t, kk]) = false) (hl : great n s = false) (h6 : n ≤ 6) (hk30 : kk.size ≤ 30) (c : Int) (hc : cmp3 (vS kk) 0 = c) (hc1 : c = 0 ∨ c = -1) :
    Calls Tryz.prog 8 #[.string t, .slice xa n cap, .string kk] w fun r w' => r = .returned (.bool true) ∧ Below w.heap.size w w' := by
  have HL := Lib.hid (rGreat_lit w hG [t, kk] (by simp))
  simp only [List.length_cons, List.length_nil, Nat.zero_add, Nat.reduceAdd, List.map_cons, List.map_nil] at HL
  rw [ht] at HL
  have HG := Lib.hid hG
  have HAW := Lib.hid aawake
  have HR := Lib.hid hr
  have HGR := Lib.hid (fun W hG hr => rGreat W hG xa n cap s hr hmax)
  rw [hl] at HGR
  have HCM := Lib.hid (fun W => compare_v (a := kk) (b := ⟨#[]⟩) (z := c) W (by omega) (by decide) rfl vS_nil hc)
  have hi : (n : Int) ≤ 6 := by omega
  have hi2 : ¬ (6 : Int) < n := by omega
  clear ht hG hr hmax hl h6 hk30 hc
  rcases hc1 with rfl | rfl
  · go_enter Tryz.func8, Tryz.ntmps8
    go_wp2_with fail
    refine HL.out.mono ?_
    rintro _ w0 ⟨rfl, hb⟩
    go_wp2_with fail
    refine (HGR.out _ (HG.out.below hb) (HR.out.belowAt hb (Nat.le_refl _))).mono ?_
    rintro _ _ ⟨rfl, hB⟩
    replace hb := hb.trans (hB.mono hb.size)
    clear hB
    go_wp2_with fail
    refine (HCM.out _).mono ?_
    rintro _ _ ⟨rfl, hB⟩
    replace hb := hb.trans (hB.mono hb.size)
    clear hB
    go_wp2_with fail
    refine (HAW.out _ (HG.out.below hb)).mono ?_
    rintro _ _ ⟨rfl, hB⟩
    replace hb := hb.trans (hB.mono hb.size)
    clear hB
    go_wp2_with fail
    go_ret
    exact ⟨rfl, hb⟩
  · go_enter Tryz.func8, Tryz.ntmps8
    go_wp2_with fail
    refine HL.out.mono ?_
    rintro _ w0 ⟨rfl, hb⟩
    go_wp2_with fail
    refine (HGR.out _ (HG.out.below hb) (HR.out.belowAt hb (Nat.le_refl _))).mono ?_
    rintro _ _ ⟨rfl, hB⟩
    replace hb := hb.trans (hB.mono hb.size)
    clear hB
    go_wp2_with fail
    refine (HCM.out _).mono ?_
    rintro _ _ ⟨rfl, hB⟩
    replace hb := hb.trans (hB.mono hb.size)
    clear hB
    go_wp2_with fail
    refine (HAW.out _ (HG.out.below hb)).mono ?_
    rintro _ _ ⟨rfl, hB⟩
    replace hb := hb.trans (hB.mono hb.size)
    clear hB
    go_wp2_with fail
    go_ret
    exact ⟨rfl, hb⟩

set_option maxRecDepth 100000 in
set_option maxHeartbeats 16000000 in
theorem asc_bad (t kk : ByteArray) (xa : Option Addr) (n cap : Nat) (s : Nat → ByteArray) (w : World) (hG : Ground w) (hr : Rs w xa n s) (hmax : n ≤ 9223372036854775807) (ht : great 2 (litS [t, kk]) = false) (hl : great n s = false) (h6 : n ≤ 6) (hk30 : kk.size ≤ 30) (hc : cmp3 (vS kk) 0 = 1) (hf : FitW n t s) (h : weighE t n s ≠ 0) :
    Calls Tryz.prog 8 #[.string t, .slice xa n cap, .string kk] w fun r w' => r = .returned (.bool true) ∧ Below w.heap.size w w' := by
  have HL := Lib.hid (rGreat_lit w hG [t, kk] (by simp))
  simp only [List.length_cons, List.length_nil, Nat.zero_add, Nat.reduceAdd, List.map_cons, List.map_nil] at HL
  rw [ht] at HL
  have HG := Lib.hid hG
  have HAW := Lib.hid aawake
  have HR := Lib.hid hr
  have HGR := Lib.hid (fun W hG hr => rGreat W hG xa n cap s hr hmax)
  rw [hl] at HGR
  have HCM := Lib.hid (fun W => compare_v (a := kk) (b := ⟨#[]⟩) (z := 1) W (by omega) (by decide) rfl vS_nil hc)
  have hi : (n : Int) ≤ 6 := by omega
  have hi2 : ¬ (6 : Int) < n := by omega
  have HN := Lib.hid (fun W hG hr => aSplit_bad W hG t xa n cap s hr hf h)
  obtain ⟨c, hc⟩ : ∃ c, weighE t n s = c := ⟨_, rfl⟩
  rw [hc] at HN
  have hb1 : (c != 0) = true := by rw [bne_iff_ne, ← hc]; exact h
  unfold nilE at HN
  clear ht hG hr hmax hl hf h hc h6 hk30
  go_enter Tryz.func8, Tryz.ntmps8
  go_wp2_with fail
  refine HL.out.mono ?_
  rintro _ w0 ⟨rfl, hb⟩
  go_wp2_with fail
  refine (HGR.out _ (HG.out.below hb) (HR.out.belowAt hb (Nat.le_refl _))).mono ?_
  rintro _ _ ⟨rfl, hB⟩
  replace hb := hb.trans (hB.mono hb.size)
  clear hB
  go_wp2_with fail
  refine (HCM.out _).mono ?_
  rintro _ _ ⟨rfl, hB⟩
  replace hb := hb.trans (hB.mono hb.size)
  clear hB
  go_wp2_with fail
  refine (HN.out _ (HG.out.below hb) (HR.out.belowAt hb (Nat.le_refl _))).mono ?_
  rintro _ _ ⟨rfl, hB⟩
  replace hb := hb.trans (hB.mono hb.size)
  clear hB
  go_wp2_with fail
  refine (HAW.out _ (HG.out.below hb)).mono ?_
  rintro _ _ ⟨rfl, hB⟩
  replace hb := hb.trans (hB.mono hb.size)
  clear hB
  go_wp2_with fail
  go_ret
  exact ⟨rfl, hb⟩

/-- what the program is to find -/
structure ScData (t kk : ByteArray) (n : Nat) (s : Nat → ByteArray) (A : Nat → Int) (K W : Nat) (wt : Nat → Nat) : Prop where
  n0 : 0 < n
  n6 : n ≤ 6
  w0 : 0 < W
  each : ∀ i, i < n → s i = cS (wt i : Nat)
  sum : sumS s n = (W : Nat)
  mulv : ∀ i, i < n → Ret 36 #[.string (s i), .string kk] (.string (moreS K wt i))
  newv : ∀ i, i < n → Ret 37 #[.string (s i), .string (cS (W : Nat))] (.tuple #[.agg #[.string (prN W wt i), .string (prD W wt i)], .int .i64 0])
  sumv : ∀ W' xa cap, Ground W' → Rs W' xa n s → Calls Tryz.prog 32 #[.slice xa n cap] W' (StrPost W' (W : Nat))
  neg : Ret 38 #[.string t] (.string (cS (-(vS t))))
  negA : ∀ i, i < n → Ret 38 #[.string (cS (A i))] (.string (cS (-(A i))))
  fits : FitW n t s
  splitA : ∀ W' xa cap, Ground W' → Rs W' xa n s → Calls Tryz.prog 14 #[.string t, .slice xa n cap] W' fun e w' => ∃ P, e = .returned (.tuple #[.slice (some ⟨P, 0, none⟩) n n, .int .i64 0]) ∧ (RowC w' P 22 n fun i => .string (cS (A i))) ∧ Below W'.heap.size W' w'
  splitM : ∀ W' xa cap, Ground W' → Rs W' xa n (moreS K wt) → Calls Tryz.prog 14 #[.string t, .slice xa n cap] W' fun e w' => ∃ P, e = .returned (.tuple #[.slice (some ⟨P, 0, none⟩) n n, .int .i64 0]) ∧ (RowC w' P 22 n fun i => .string (cS (A i))) ∧ Below W'.heap.size W' w'
  splitN : ∀ W' xa cap, Ground W' → Rs W' xa n s → Calls Tryz.prog 14 #[.string (cS (-(vS t))), .slice xa n cap] W' fun e w' => ∃ P, e = .returned (.tuple #[.slice (some ⟨P, 0, none⟩) n n, .int .i64 0]) ∧ (RowC w' P 22 n fun i => .string (cS (-(A i)))) ∧ Below W'.heap.size W' w'
  fracs : ∀ W' xa cap, Ground W' → Rf W' xa n (prN W wt) (prD W wt) → Calls Tryz.prog 28 #[.string t, .slice xa n cap] W' fun e w' => ∃ P, e = .returned (.tuple #[.slice (some ⟨P, 0, none⟩) n n, .int .i64 0]) ∧ (RowC w' P 22 n fun i => .string (cS (A i))) ∧ Below W'.heap.size W' w'
theorem sc_data {t kk : ByteArray} {n : Nat} {s : Nat → ByteArray} (hf : FitW n t s) (h : weighE t n s = 0) (ht30 : t.size ≤ 30) (hk30 : kk.size ≤ 30) (hK : 0 < vS kk) (h6 : n ≤ 6) (hs : ∀ i, i < n → (s i).size ≤ 30) :
    ScData t kk n s (Num.splitP (vS t) (Num.sumN (wtN s) n) (wtN s) n) (vS kk).toNat (Num.sumN (wtN s) n) (wtN s) := by
  have hgd := weighE_zero h
  have hd := hgd.data hf
  obtain ⟨c, hc1, hdiv⟩ := hd.divc
  have hn0 := hgd.pos
  have hw0 := hdiv.w0
  have hwc : ∀ i, i < n → wtN s i < 10 ^ 30 := fun i hi => by
    have h1 := Cap.of (hs i hi) rfl
    have h2 := hgd.nn i hi
    unfold Cap at h1
    unfold wtN
    omega
  have hWc : Num.sumN (wtN s) n < 10 ^ (30 + n) := by
    have h1 := sumS_cap (s := s) (c := 30) (by decide) (k := n) (fun i hi => Cap.of (hs i hi) rfl)
    rw [hd.sum] at h1
    unfold Cap at h1
    simpa using h1
  have hKc : (vS kk).toNat < 10 ^ 30 := by have h1 := Cap.of hk30 rfl; unfold Cap at h1; omega
  have hfit := hf.fit hgd.few
  have hca : ∀ i, i < n → Cap 31 (Num.splitP (vS t) (Num.sumN (wtN s) n) (wtN s) n i) := fun i hi => hdiv.near_cap hi (Num.split_near rfl hdiv.w0) (Cap.of ht30 rfl) (by decide)
  have hfm : FitW n t (moreS (vS kk).toNat (wtN s)) := more_fit (by omega) hf.t1 hKc hwc (by decide)
  have hgm : weighE t n (moreS (vS kk).toNat (wtN s)) = 0 := more_good (by omega) hn0 (by omega) hgd.total hw0
  have hnt : (cS (-(vS t))).size ≤ 1000 := by have h1 := Cap.neg (Cap.of ht30 rfl); have := cS_size h1; omega
  have hfn : FitW n (cS (-(vS t))) s := ⟨hf.few, hf.max, hnt, hf.size⟩
  have hgn : weighE (cS (-(vS t))) n s = 0 := weighE_ok hn0 hgd.few (cS_can _) hgd.can hgd.nn hgd.ne
  obtain ⟨q1, q2, q3, q4⟩ := pr_frac (t := t) (k := 30 + n) hn0 (by omega) hgd.total hf.t1 (rfl : Num.sumN (wtN s) n = _) hw0 (by omega) (by omega) hWc
  refine ⟨hn0, h6, hw0, hd.each, hd.sum, fun i hi W hW => ?_, fun i hi W hW => ?_, fun W' xa cap hW hr => ?_, fun W hW => ?_, fun i hi W hW => ?_, hf, fun W' xa cap hW hr => aSplit_ok W' hW t xa n cap s hr hf h, fun W' xa cap hW hr => ?_, fun W' xa cap hW hr => ?_, fun W' xa cap hW hr => ?_⟩
  · have h1 := hs i hi
    have h2 := hgd.nn i hi
    refine (mul_v (a := s i) (b := kk) (z := (((vS kk).toNat * wtN s i : Nat) : Int)) W hW (by omega) (by omega) rfl rfl ?_).mono fun _ _ h => h
    unfold wtN
    rw [Int.natCast_mul, Int.toNat_of_nonneg h2, Int.toNat_of_nonneg (by omega), Int.mul_comm]
  · have h1 := cS_size (z := ((Num.sumN (wtN s) n : Nat) : Int)) (k := 30 + n) (by omega)
    have h2 := hs i hi
    exact (fNew_v (z := red (wtN s i : Nat) (Num.sumN (wtN s) n : Nat)) W hW (a := s i) (b := cS (Num.sumN (wtN s) n : Nat)) (by omega) (by omega) (by rw [hd.each i hi, vS_cS]) (vS_cS _) (by omega) (redS_red (by omega)))
  · have h1 := rSum xa n cap 1000 s W' hW hr hfit
    rw [hd.sum] at h1
    exact h1
  · exact (neg_v W (by omega) rfl rfl).mono fun _ _ h => ⟨h.1, h.2 ▸ Below.refl _ _⟩
  · have h1 := cS_size (hca i hi)
    exact (neg_v W (by omega) (vS_cS _) rfl).mono fun _ _ h => ⟨h.1, h.2 ▸ Below.refl _ _⟩
  · refine (aSplit_ok W' hW t xa n cap _ hr hfm hgm).mono ?_
    rintro e w1 ⟨P, e1, hP, hB⟩
    refine ⟨P, e1, hP.congr fun i hi => ?_, hB⟩
    rw [wtN_more, Num.sumN_mul, Num.split_scale (by omega)]
  · refine (aSplit_ok W' hW _ xa n cap _ hr hfn hgn).mono ?_
    rintro e w1 ⟨P, e1, hP, hB⟩
    refine ⟨P, e1, hP.congr fun i hi => ?_, hB⟩
    rw [vS_cS, Num.split_neg rfl hw0]
  · refine (aFrac_ok W' hW t xa n cap _ _ hr q1 q2 q3).mono ?_
    rintro e w1 ⟨P, e1, hP, hB⟩
    refine ⟨P, e1, hP.congr fun i hi => ?_, hB⟩
    rw [q4 _ i hi]

set_option maxRecDepth 100000 in
set_option maxHeartbeats 16000000 in
theorem asc_ok (t kk : ByteArray) (xa : Option Addr) (n cap : Nat) (s : Nat → ByteArray) (w : World) (hG : Ground w) (hr : Rs w xa n s) (hmax : n ≤ 9223372036854775807) (ht : great 2 (litS [t, kk]) = false) (hl : great n s = false) (hk30 : kk.size ≤ 30) (hc : cmp3 (vS kk) 0 = 1) (A : Nat → Int) (K W : Nat) (wt : Nat → Nat) (hd : ScData t kk n s A K W wt) :
    Calls Tryz.prog 8 #[.string t, .slice xa n cap, .string kk] w fun r w' => r = .returned (.bool true) ∧ Below w.heap.size w w' := by
  have h6 := hd.n6
  have HL := Lib.hid (rGreat_lit w hG [t, kk] (by simp))
  simp only [List.length_cons, List.length_nil, Nat.zero_add, Nat.reduceAdd, List.map_cons, List.map_nil] at HL
  rw [ht] at HL
  have HG := Lib.hid hG
  have HAW := Lib.hid aawake
  have HR := Lib.hid hr
  have HGR := Lib.hid (fun W hG hr => rGreat W hG xa n cap s hr hmax)
  rw [hl] at HGR
  have HCM := Lib.hid (fun W => compare_v (a := kk) (b := ⟨#[]⟩) (z := 1) W (by omega) (by decide) rfl vS_nil hc)
  have hi : (n : Int) ≤ 6 := by omega
  have hi2 : ¬ (6 : Int) < n := by omega
  have HD := Lib.hid hd
  obtain ⟨tn, htn⟩ : ∃ tn, cS (-(vS t)) = tn := ⟨_, rfl⟩
  have HNG := hd.neg
  have HSN := hd.splitN
  rw [htn] at HNG HSN
  replace HNG := Lib.hid HNG
  replace HSN := Lib.hid HSN
  obtain ⟨u, hu⟩ : ∃ u, cS (W : Nat) = u := ⟨_, rfl⟩
  have HNW := hd.newv
  have HSM := hd.sumv
  unfold StrPost at HSM
  rw [hu] at HNW HSM
  replace HNW := Lib.hid HNW
  replace HSM := Lib.hid HSM
  have hn1 := hd.n0
  clear ht hG hr hmax hl hd hk30 hc htn hu
  go_enter Tryz.func8, Tryz.ntmps8
  go_wp2_with fail
  refine HL.out.mono ?_
  rintro _ w0 ⟨rfl, hb⟩
  go_wp2_with fail
  refine (HGR.out _ (HG.out.below hb) (HR.out.belowAt hb (Nat.le_refl _))).mono ?_
  rintro _ _ ⟨rfl, hB⟩
  replace hb := hb.trans (hB.mono hb.size)
  clear hB
  go_wp2_with fail
  refine (HCM.out _).mono ?_
  rintro _ _ ⟨rfl, hB⟩
  replace hb := hb.trans (hB.mono hb.size)
  clear hB
  go_wp2_with fail
  refine (HD.out.splitA _ _ _ (HG.out.below hb) (HR.out.belowAt hb (Nat.le_refl _))).mono ?_
  rintro _ w1 ⟨P, rfl, hP, hB⟩
  replace hb := hb.trans (hB.mono hb.size)
  clear hB
  obtain ⟨B, hBs⟩ : ∃ B, w1.heap.size = B := ⟨_, rfl⟩
  have hwB : w.heap.size ≤ B := by have := hb.size; omega
  have HHB := Lib.hid hb
  have HP := Lib.hid (show P < B by have := hP.lt; omega)
  have HPR := Lib.hid hP
  have HB0 := Lib.hid (show Below B w1 w1 from Below.refl _ _)
  have HBS := Lib.hid hBs
  clear hb hP
  go_wp2_with fail
  go_loopw [9, 10, 53] (fun mo pa iv wr => ∃ i : Nat, i ≤ n ∧ iv = .int .i64 (i : Int) ∧ Hid (OwnS wr B mo i (moreS K wt)) ∧ Hid (OwnF wr B pa i (prN W wt) (prD W wt)) ∧ Hid (Below B w1 wr)) (fun _ _ iv _ => n - (intOf iv).toNat)
  case atStart => exact ⟨0, Nat.zero_le _, rfl, Lib.hid (OwnC.nil _ _ _ _ _), Lib.hid (OwnC.nil _ _ _ _ _), HB0⟩
  case round =>
    clear HB0
    obtain ⟨i, hi1, rfl, HMO, HPA, HB⟩ := hrel
    have hBw : B ≤ wr.heap.size := by have := HB.out.size; have := HBS.out; omega
    by_cases hlt : i < n
    · have hb := HHB.out.trans (HB.out.mono hwB)
      obtain ⟨b, o, rfl, hbb, hck⟩ := Rs.at (HR.out.belowAt hb (Nat.le_refl _)) hlt
      have HM := Lib.hid (HD.out.mulv i hlt)
      have HNE := Lib.hid (HNW.out i hlt)
      obtain ⟨si, hsi⟩ : ∃ si, s i = si := ⟨_, rfl⟩
      obtain ⟨mi, hmi⟩ : ∃ mi, moreS K wt i = mi := ⟨_, rfl⟩
      obtain ⟨pn, hpn⟩ : ∃ pn, prN W wt i = pn := ⟨_, rfl⟩
      obtain ⟨pd, hpd⟩ : ∃ pd, prD W wt i = pd := ⟨_, rfl⟩
      rw [hsi] at hck HM HNE
      rw [hmi] at HM
      rw [hpn, hpd] at HNE
      have HMI := Lib.hid hmi
      have HPN := Lib.hid hpn
      have HPD := Lib.hid hpd
      have HHB2 := Lib.hid hb
      clear hsi hmi hpn hpd hbb hb
      go_wp2_with fail
      refine (HM.out _ (HG.out.below HHB2.out)).mono ?_
      rintro _ w2 ⟨rfl, hB⟩
      have HB2 := Lib.hid (HB.out.trans (hB.mono hBw))
      have HMO2 := Lib.hid (HMO.out.kept hB |>.alloc (.cells #[.string mi] 22))
      have HPA2 := Lib.hid (HPA.out.kept hB |>.alloc (.cells #[.string mi] 22))
      have hBw2 : B ≤ (w2.alloc (.cells #[.string mi] 22)).heap.size := by have := hB.size; rw [World.size_alloc]; omega
      have HC1 := Lib.hid (show (w2.alloc (.cells #[.string mi] 22)).cell? ⟨w2.heap.size, 0, none⟩ = some (.string (moreS K wt i)) by rw [HMI.out]; exact cell_of_row _ _ _ _ _ _ (heap_alloc_new w2 _))
      have HB3 := Lib.hid (HB2.out.alloc (by have := hB.size; omega) (.cells #[.string mi] 22))
      clear hB HMO HPA HB HB2 hBw hck
      go_wp2_with (at_builtin; refine wp_addStr2 rfl _ _ rfl B _ i (moreS K wt) rfl HMO2.out HPA2.out w2.heap.size HC1.out rfl (by omega) hBw2 ?_; intro v3 W3 hO3 hO4 hB4; have HMO3 := Lib.hid hO3; have HPA3 := Lib.hid hO4; have HB4 := Lib.hid (HB3.out.trans (hB4.mono (Nat.le_refl _))); clear hO3 hO4 hB4 HMO2 HPA2 HC1 HB3)
      have HB5 := Lib.hid (HHB.out.trans (HB4.out.mono hwB))
      have hBw3 : B ≤ W3.heap.size := by have := HB4.out.size; have := HBS.out; omega
      refine (HSM.out _ _ _ (HG.out.below HB5.out) (HR.out.belowAt HB5.out (Nat.le_refl _))).mono ?_
      rintro _ w6 ⟨rfl, hB⟩
      have HMO4 := Lib.hid (HMO3.out.kept hB)
      have HPA4 := Lib.hid (HPA3.out.kept hB)
      have HB6 := Lib.hid (HB4.out.trans (hB.mono hBw3))
      have hBw6 : B ≤ w6.heap.size := by have := hB.size; omega
      clear hB HMO3 HPA3 HB4 HB5
      have HB7 := Lib.hid (HHB.out.trans (HB6.out.mono hwB))
      go_wp2_with fail
      refine (HNE.out _ (HG.out.below HB7.out)).mono ?_
      rintro _ w8 ⟨rfl, hB⟩
      have HMO5 := Lib.hid ((HMO4.out.kept hB |>.alloc (.cells #[.string pn, .string pd] 36)).alloc (.cells #[.string pn, .string pd] 36))
      have HPA5 := Lib.hid ((HPA4.out.kept hB |>.alloc (.cells #[.string pn, .string pd] 36)).alloc (.cells #[.string pn, .string pd] 36))
      have hBw8 : B ≤ w8.heap.size := by have := hB.size; omega
      have HB9 := Lib.hid (((HB6.out.trans (hB.mono hBw6)).alloc (by omega) (.cells #[.string pn, .string pd] 36)).alloc (by rw [World.size_alloc]; omega) (.cells #[.string pn, .string pd] 36))
      have hBw9 : B ≤ ((w8.alloc (.cells #[.string pn, .string pd] 36)).alloc (.cells #[.string pn, .string pd] 36)).heap.size := by rw [World.size_alloc, World.size_alloc]; omega
      have HC2 := Lib.hid (show ((w8.alloc (.cells #[.string pn, .string pd] 36)).alloc (.cells #[.string pn, .string pd] 36)).cell? ⟨w8.heap.size + 1, 0, none⟩ = some (.string (prN W wt i)) by rw [HPN.out]; have := heap_alloc_new (w8.alloc (.cells #[.string pn, .string pd] 36)) (.cells #[.string pn, .string pd] 36); rw [World.size_alloc] at this; exact cell_of_row _ _ _ _ _ _ this)
      have HC3 := Lib.hid (show ((w8.alloc (.cells #[.string pn, .string pd] 36)).alloc (.cells #[.string pn, .string pd] 36)).cell? ⟨w8.heap.size + 1, 1, none⟩ = some (.string (prD W wt i)) by rw [HPD.out]; have := heap_alloc_new (w8.alloc (.cells #[.string pn, .string pd] 36)) (.cells #[.string pn, .string pd] 36); rw [World.size_alloc] at this; exact cell_of_row _ _ _ _ _ _ this)
      clear hB HMO4 HPA4 HB6 HB7 hBw3 hBw6 hBw2
      go_wp2_with (at_builtin; refine wp_addFrac2 rfl _ _ rfl B _ i (prN W wt) (prD W wt) rfl HPA5.out HMO5.out (w8.heap.size + 1) HC2.out HC3.out rfl (by omega) hBw9 ?_; intro v10 W10 hO3 hO4 hB4; have HPA6 := Lib.hid hO3; have HMO6 := Lib.hid hO4; have HB10 := Lib.hid (HB9.out.trans (hB4.mono (Nat.le_refl _))); clear hO3 hO4 hB4 HMO5 HPA5 HC2 HC3 HB9)
      go_roundw
      case rel => exact ⟨i + 1, by omega, by simp, HMO6, HPA6, HB10⟩
      case measure => simp [intOf]; omega
    · obtain rfl : i = n := by omega
      obtain ⟨ma, mc, rfl, hmr, _, _, _, _⟩ := HMO.out.rc
      obtain ⟨pa', pc, rfl, hpr, _, _, _, _⟩ := HPA.out.rc
      rw [Nat.mul_one] at hmr
      have hP := HPR.out.below HB.out HP.out
      have hb := HHB.out.trans (HB.out.mono hwB)
      clear HMO HPA HB
      go_wp2_with fail
      refine (HD.out.splitM _ _ _ (HG.out.below hb) hmr).mono ?_
      rintro _ w2 ⟨P2, rfl, hP2, hB⟩
      replace hP := hP.below hB hP.lt
      replace hpr := hpr.below hB
      replace hb := hb.trans (hB.mono hb.size)
      clear hB hmr
      go_wp2_with fail
      refine (HNG.out _ (HG.out.below hb)).mono ?_
      rintro _ w3 ⟨rfl, hB⟩
      replace hP := hP.below hB hP.lt
      replace hP2 := hP2.below hB hP2.lt
      replace hpr := hpr.below hB
      replace hb := hb.trans (hB.mono hb.size)
      clear hB
      go_wp2_with fail
      refine (HSN.out _ _ _ (HG.out.below hb) (HR.out.belowAt hb (Nat.le_refl _))).mono ?_
      rintro _ w4 ⟨P3, rfl, hP3, hB⟩
      replace hP := hP.below hB hP.lt
      replace hP2 := hP2.below hB hP2.lt
      replace hpr := hpr.below hB
      replace hb := hb.trans (hB.mono hb.size)
      clear hB
      go_wp2_with fail
      refine (HD.out.fracs _ _ _ (HG.out.below hb) hpr).mono ?_
      rintro _ w5 ⟨P4, rfl, hP4, hB⟩
      replace hP := hP.below hB hP.lt
      replace hP2 := hP2.below hB hP2.lt
      replace hP3 := hP3.below hB hP3.lt
      replace hb := hb.trans (hB.mono hb.size)
      clear hB hpr
      go_wp2_with fail
      refine (eqStr _ _ _ i i i _ _ hP2.rc hP.rc (by omega)).mono ?_
      rw [sameS_true (fun _ _ => rfl)]
      rintro _ w6 ⟨rfl, hB⟩
      replace hP := hP.below hB hP.lt
      replace hP3 := hP3.below hB hP3.lt
      replace hP4 := hP4.below hB hP4.lt
      replace hb := hb.trans (hB.mono hb.size)
      clear hB hP2
      go_wp2_with fail
      refine (eqStr _ _ _ i i i _ _ hP4.rc hP.rc (by omega)).mono ?_
      rw [sameS_true (fun _ _ => rfl)]
      rintro _ w7 ⟨rfl, hB⟩
      replace hP := hP.below hB hP.lt
      replace hP3 := hP3.below hB hP3.lt
      replace hb := hb.trans (hB.mono hb.size)
      clear hB hP4
      have HPP := Lib.hid hP
      have HP3 := Lib.hid hP3
      have HBB := Lib.hid (show Below w7.heap.size w7 w7 from Below.refl _ _)
      have HHB7 := Lib.hid hb
      clear hP hP3 hb
      go_wp2_with fail
      go_loopw [122] (fun iv wr => ∃ k : Nat, k ≤ i ∧ iv = .int .i64 (k : Int) ∧ Hid (Below w7.heap.size w7 wr)) (fun iv _ => i - (intOf iv).toNat)
      case atStart => exact ⟨0, Nat.zero_le _, rfl, HBB⟩
      case round =>
        clear HBB
        obtain ⟨k, hk, rfl, HB⟩ := hrel
        by_cases hlt2 : k < i
        · have c1 := (HPP.out.below HB.out HPP.out.lt).cell hlt2
          have c3 := (HP3.out.below HB.out HP3.out.lt).cell hlt2
          have HNA := Lib.hid (HD.out.negA k hlt2)
          obtain ⟨x1, hx1⟩ : ∃ x, cS (A k) = x := ⟨_, rfl⟩
          obtain ⟨x2, hx2⟩ : ∃ x, cS (-(A k)) = x := ⟨_, rfl⟩
          rw [hx1] at c1 HNA
          rw [hx2] at c3 HNA
          have HHB8 := Lib.hid (HHB7.out.trans (HB.out.mono HHB7.out.size))
          clear hx1 hx2
          go_wp2_with fail
          refine (HNA.out _ (HG.out.below HHB8.out)).mono ?_
          rintro _ w8 ⟨rfl, hB⟩
          have HB9 := Lib.hid (HB.out.trans (hB.mono HB.out.size))
          clear hB HB c1 c3
          go_wp2_with fail
          go_roundw
          case rel => exact ⟨k + 1, by omega, by simp, HB9⟩
          case measure => simp [intOf]; omega
        · obtain rfl : k = i := by omega
          have hb := HHB7.out.trans (HB.out.mono HHB7.out.size)
          clear HB
          go_wp2_with fail
          refine (HAW.out _ (HG.out.below hb)).mono ?_
          rintro _ _ ⟨rfl, hB⟩
          replace hb := hb.trans (hB.mono hb.size)
          clear hB
          go_wp2_with fail
          go_ret
          exact ⟨rfl, hb⟩

theorem asc_any (t kk : ByteArray) (xa : Option Addr) (n cap : Nat) (s : Nat → ByteArray) (w : World) (hG : Ground w) (hr : Rs w xa n s) (hmax : n ≤ 9223372036854775807) :
    Calls Tryz.prog 8 #[.string t, .slice xa n cap, .string kk] w fun r w' => r = .returned (.bool true) ∧ Below w.heap.size w w' := by
  cases ht : great 2 (litS [t, kk]) with
  | true => exact asc_long1 t kk xa n cap w hG ht
  | false =>
    cases hl : great n s with
    | true => exact asc_long2 t kk xa n cap s w hG hr hmax ht hl
    | false =>
      have ht2 := ht
      rw [great2, Bool.or_eq_false_iff] at ht2
      obtain ⟨hf, ht30⟩ := fitW_of ht2.1 hl
      obtain ⟨_, hs⟩ := great_false hl
      have hk30 : kk.size ≤ 30 := by have := of_decide_eq_false ht2.2; omega
      by_cases h6 : n ≤ 6
      · by_cases hK : 0 < vS kk
        · have hc : cmp3 (vS kk) 0 = 1 := by unfold cmp3; rw [if_neg (by omega), if_pos hK]
          by_cases h : weighE t n s = 0
          · exact asc_ok t kk xa n cap s w hG hr hmax ht hl hk30 hc _ _ _ _ (sc_data hf h ht30 hk30 hK h6 hs)
          · exact asc_bad t kk xa n cap s w hG hr hmax ht hl h6 hk30 hc hf h
        · exact asc_low t kk xa n cap s w hG hr hmax ht hl h6 hk30 _ rfl (by
            by_cases e : vS kk < 0
            · right; unfold cmp3; rw [if_pos e]
            · left; unfold cmp3; rw [if_neg e, if_neg hK])
      · exact asc_many t kk xa n cap s w hG hr hmax ht hl (by omega)

end Go.Proofs.YthhihdihkddakaaGreatDoor
