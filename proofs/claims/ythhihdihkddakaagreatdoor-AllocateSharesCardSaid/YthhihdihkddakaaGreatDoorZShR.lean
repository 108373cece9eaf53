/- allocate.checkFractions, commonDenominator, numerators, Fractions: the walks. -/
import Derived.Test.YthhihdihkddakaaGreatDoorZShN
import Derived.Test.YthhihdihkddakaaGreatDoorZShQ
namespace Go.Proofs.YthhihdihkddakaaGreatDoor
open Go.RowKit Fra

/-- a fraction is canonical; a fraction is no share -/
def canF (u v : ByteArray) : Bool := decide (cS (low (raw u v)).1 = u ∧ cD (low (raw u v)).2 = v)
def wrongF (u v : ByteArray) : Bool := !canF u v || decide (vS u < 0)
theorem check_ret1 {u v : ByteArray} (hu : u.size ≤ 100000) (hv : v.size ≤ 100000) (h : canF u v = true) : Ret 129 #[.agg #[.string u, .string v]] (.int .i64 0) := fun W hW => fCheck_ok u v W hW hu hv (of_decide_eq_true h)
theorem check_ret0 {u v : ByteArray} (hu : u.size ≤ 100000) (hv : v.size ≤ 100000) (h : canF u v = false) : Ret 129 #[.agg #[.string u, .string v]] (.int .i64 1) := fun W hW => fCheck_bad u v W hW hu hv (of_decide_eq_false h)

set_option maxRecDepth 100000 in
set_option maxHeartbeats 8000000 in
theorem aWrong_can {u v : ByteArray} (hu : u.size ≤ 100000) (hv : v.size ≤ 100000) (h : canF u v = false) : Ret 128 #[.agg #[.string u, .string v]] (.bool true) := by
  intro w hG
  have HC := Lib.hid (check_ret0 hu hv h)
  have HG := Lib.hid hG
  obtain ⟨W0, hW0⟩ : ∃ W0, W0 = w.alloc (.cells #[.string u, .string v] 36) := ⟨_, rfl⟩
  have hB : Below w.heap.size w W0 := by rw [hW0]; exact (Below.refl _ _).alloc (Nat.le_refl _) _
  have hP : PairAt W0 w.heap.size 36 u v := by rw [hW0]; exact PairAt.made _ _ _ _
  clear h hu hv hG
  go_enter Tryz.func128, Tryz.ntmps128
  go_upto_region 1 with fail
  rw [← hW0]
  clear hW0
  obtain ⟨c4, c5, _, _⟩ := hP.cells
  go_wp2_with fail
  refine (HC.out W0 (HG.out.below hB)).mono ?_
  rintro _ w1 ⟨rfl, hB1⟩
  go_wp2_with fail
  go_ret
  exact ⟨rfl, hB.trans (hB1.mono hB.size)⟩

set_option maxRecDepth 100000 in
set_option maxHeartbeats 8000000 in
theorem aWrong_neg {u v : ByteArray} (hu : u.size ≤ 100000) (hv : v.size ≤ 100000) (h : canF u v = true) : Ret 128 #[.agg #[.string u, .string v]] (.bool (decide (vS u < 0))) := by
  intro w hG
  have HC := Lib.hid (check_ret1 hu hv h)
  have HN := Lib.hid (fun W => aNeg (s := u) (by omega) rfl W)
  have HG := Lib.hid hG
  obtain ⟨W0, hW0⟩ : ∃ W0, W0 = w.alloc (.cells #[.string u, .string v] 36) := ⟨_, rfl⟩
  have hB : Below w.heap.size w W0 := by rw [hW0]; exact (Below.refl _ _).alloc (Nat.le_refl _) _
  have hP : PairAt W0 w.heap.size 36 u v := by rw [hW0]; exact PairAt.made _ _ _ _
  obtain ⟨r, hr⟩ : ∃ r, decide (vS u < 0) = r := ⟨_, rfl⟩
  rw [hr] at HN ⊢
  clear h hu hv hG hr
  go_enter Tryz.func128, Tryz.ntmps128
  go_upto_region 1 with fail
  rw [← hW0]
  clear hW0
  obtain ⟨c4, c5, _, _⟩ := hP.cells
  go_wp2_with fail
  refine (HC.out W0 (HG.out.below hB)).mono ?_
  rintro _ w1 ⟨rfl, hB1⟩
  have hP1 := hP.below hB1
  obtain ⟨k4, k5, _, _⟩ := hP1.cells
  clear c4 c5
  go_wp2_with fail
  refine (HN.out w1).mono ?_
  rintro _ w2 ⟨rfl, hB2⟩
  replace hB := hB.trans (hB1.mono hB.size)
  go_wp2_with fail
  go_ret
  exact ⟨rfl, hB.trans (hB2.mono hB.size)⟩

theorem aWrong {u v : ByteArray} (hu : u.size ≤ 100000) (hv : v.size ≤ 100000) : Ret 128 #[.agg #[.string u, .string v]] (.bool (wrongF u v)) := by
  unfold wrongF
  cases h : canF u v with
  | false => exact aWrong_can hu hv h
  | true => rw [show (!true || decide (vS u < 0)) = decide (vS u < 0) by simp]; exact aWrong_neg hu hv h

/-- few, or too many -/
structure FitF (n : Nat) (t : ByteArray) (u v : Nat → ByteArray) : Prop where
  few : n ≤ 12 ∨ 1000 < n
  max : n ≤ 100000
  t1 : t.size ≤ 1000
  num : n ≤ 1000 → ∀ i, i < n → (u i).size ≤ 100
  den : n ≤ 1000 → ∀ i, i < n → (v i).size ≤ 100
def wrongs (n : Nat) (u v : Nat → ByteArray) : Bool := (List.range n).any fun i => wrongF (u i) (v i)
/-- why t cannot be divided by fractions, whatever their sum -/
def fracE (t : ByteArray) (n : Nat) (u v : Nat → ByteArray) : Int :=
  if n = 0 then 11 else if 1000 < n then 4 else if isCan t = false ∨ wrongs n u v = true then 1 else 0
set_option maxRecDepth 100000 in
set_option maxHeartbeats 8000000 in
theorem aChkF_cnt (w : World) (t : ByteArray) (xa : Option Addr) (n cap : Nat) (c : Int) (hc : cnt n = c) (hb : (c != 0) = true) (hmax : n ≤ 100000) :
    Calls Tryz.prog 75 #[.string t, .slice xa n cap] w fun e w' => e = .returned (.int .i64 c) ∧ Below w.heap.size w w' := by
  have HC := Lib.hid (aCount n w (by omega))
  rw [hc] at HC
  clear hc
  go_enter Tryz.func75, Tryz.ntmps75
  go_wp2_with fail
  refine HC.out.mono ?_
  rintro _ _ ⟨rfl, rfl⟩
  go_wp2_with fail
  go_ret
  exact ⟨rfl, Below.refl _ _⟩

set_option maxRecDepth 100000 in
set_option maxHeartbeats 8000000 in
theorem aChkF_can (w : World) (t : ByteArray) (xa : Option Addr) (n cap : Nat) (u v : Nat → ByteArray) (hf : FitF n t u v) (h0 : 0 < n) (hk : n ≤ 1000) (ht : isCan t = false) :
    Calls Tryz.prog 75 #[.string t, .slice xa n cap] w fun e w' => e = .returned (.int .i64 1) ∧ Below w.heap.size w w' := by
  have hmax := hf.max
  have HC := Lib.hid (aCount n w (by omega))
  rw [show cnt n = 0 by unfold cnt; rw [if_neg (by omega), if_neg (by omega)]] at HC
  have HB := Lib.hid (show Below w.heap.size w (w.alloc (.cells #[.string t] 22)) from (Below.refl _ _).alloc (Nat.le_refl _) _)
  have HT := Lib.hid (aCan _ _ 1 1 _ (Rs.one w t 22) (by decide) (fun _ _ => by have := hf.t1; omega))
  rw [allC_one, ht] at HT
  clear hf ht
  go_enter Tryz.func75, Tryz.ntmps75
  go_wp2_with fail
  refine HC.out.mono ?_
  rintro _ _ ⟨rfl, rfl⟩
  go_wp2_with fail
  refine HT.out.mono ?_
  rintro _ _ ⟨rfl, rfl⟩
  go_wp2_with fail
  go_ret
  exact ⟨rfl, HB.out⟩

set_option maxRecDepth 100000 in
set_option maxHeartbeats 8000000 in
theorem aChkF_all (w : World) (hG : Ground w) (t : ByteArray) (xa : Option Addr) (n cap : Nat) (u v : Nat → ByteArray) (hr : Rf w xa n u v) (hf : FitF n t u v) (h0 : 0 < n) (hk : n ≤ 1000) (ht : isCan t = true) (r : Int) (h1 : wrongs n u v = true → r = 1) (h2 : wrongs n u v = false → r = 0) :
    Calls Tryz.prog 75 #[.string t, .slice xa n cap] w fun e w' => e = .returned (.int .i64 r) ∧ Below w.heap.size w w' := by
  have hmax := hf.max
  have HC := Lib.hid (aCount n w (by omega))
  rw [show cnt n = 0 by unfold cnt; rw [if_neg (by omega), if_neg (by omega)]] at HC
  have HB := Lib.hid (show Below w.heap.size w (w.alloc (.cells #[.string t] 22)) from (Below.refl _ _).alloc (Nat.le_refl _) _)
  have HT := Lib.hid (aCan _ _ 1 1 _ (Rs.one w t 22) (by decide) (fun _ _ => by have := hf.t1; omega))
  rw [allC_one, ht] at HT
  have HH := Lib.hid (hasWrong _ (hG.alloc (.cells #[.string t] 22)) xa n cap u v (hr.alloc _) (by omega) (fun i => wrongF (u i) (v i)) (fun i hi W hW => aWrong (by have := hf.num hk i hi; omega) (by have := hf.den hk i hi; omega) W hW))
  rw [show (List.range n).any (fun i => wrongF (u i) (v i)) = wrongs n u v from rfl] at HH
  obtain ⟨q, hq⟩ : ∃ q, wrongs n u v = q := ⟨_, rfl⟩
  rw [hq] at HH h1 h2
  clear hf ht hr hG hq
  go_enter Tryz.func75, Tryz.ntmps75
  go_wp2_with fail
  refine HC.out.mono ?_
  rintro _ _ ⟨rfl, rfl⟩
  go_wp2_with fail
  refine HT.out.mono ?_
  rintro _ _ ⟨rfl, rfl⟩
  go_wp2_with fail
  refine HH.out.mono ?_
  rintro _ w2 ⟨rfl, hB2⟩
  cases q with
  | true =>
    have hr1 := h1 rfl
    clear h1 h2
    go_wp2_with fail
    go_ret
    exact ⟨by rw [hr1]; rfl, HB.out.trans (hB2.mono HB.out.size)⟩
  | false =>
    have hr1 := h2 rfl
    clear h1 h2
    go_wp2_with fail
    go_ret
    exact ⟨by rw [hr1]; rfl, HB.out.trans (hB2.mono HB.out.size)⟩

theorem aChkF (w : World) (hG : Ground w) (t : ByteArray) (xa : Option Addr) (n cap : Nat) (u v : Nat → ByteArray) (hr : Rf w xa n u v) (hf : FitF n t u v) :
    Calls Tryz.prog 75 #[.string t, .slice xa n cap] w fun e w' => e = .returned (.int .i64 (fracE t n u v)) ∧ Below w.heap.size w w' := by
  unfold fracE
  by_cases h0 : n = 0
  · rw [if_pos h0]
    subst h0
    exact aChkF_cnt w t xa 0 cap 11 rfl rfl (by decide)
  rw [if_neg h0]
  by_cases h1 : 1000 < n
  · rw [if_pos h1]
    exact aChkF_cnt w t xa n cap 4 (by unfold cnt; rw [if_neg h0, if_pos h1]) rfl hf.max
  rw [if_neg h1]
  cases ht : isCan t with
  | false => rw [if_pos (Or.inl rfl)]; exact aChkF_can w t xa n cap u v hf (by omega) (by omega) ht
  | true => exact aChkF_all w hG t xa n cap u v hr hf (by omega) (by omega) ht _ (fun h => if_pos (Or.inr h)) (fun h => if_neg (by rw [h]; simp))

/-- the numerators and the denominators -/
def nuN (u v : Nat → ByteArray) (i : Nat) : Nat := (low (raw (u i) (v i))).1.toNat
def deN (u v : Nat → ByteArray) (i : Nat) : Nat := (low (raw (u i) (v i))).2.toNat
/-- the fractions are such as t can be divided by, but for their sum -/
structure GoodF (t : ByteArray) (n : Nat) (u v : Nat → ByteArray) : Prop where
  pos : 0 < n
  few : n ≤ 12
  total : t = cS (vS t)
  num : ∀ i, i < n → (low (raw (u i) (v i))).1 = (nuN u v i : Nat)
  den : ∀ i, i < n → (low (raw (u i) (v i))).2 = (deN u v i : Nat)
  den0 : ∀ i, i < n → 0 < deN u v i
  capn : ∀ i, i < n → nuN u v i < 10 ^ 100
  capd : ∀ i, i < n → deN u v i < 10 ^ 100
  val : ∀ i, i < n → Val (u i) (v i) (raw (u i) (v i))
theorem fracE_zero {t : ByteArray} {n : Nat} {u v : Nat → ByteArray} (hf : FitF n t u v) (h : fracE t n u v = 0) : GoodF t n u v := by
  unfold fracE at h
  by_cases h1 : n = 0
  · rw [if_pos h1] at h; omega
  rw [if_neg h1] at h
  by_cases h2 : 1000 < n
  · rw [if_pos h2] at h; omega
  rw [if_neg h2] at h
  by_cases h3 : isCan t = false ∨ wrongs n u v = true
  · rw [if_pos h3] at h; omega
  have hfew := hf.few
  have hc : ∀ i, i < n → CapP 100 (low (raw (u i) (v i))) := fun i hi => CapP.low (CapP.of_raw (by decide) (hf.num (by omega) i hi) (hf.den (by omega) i hi)) (raw_pos _ _)
  have hp : ∀ i, 0 < (low (raw (u i) (v i))).2 := fun i => low_pos (raw_pos _ _)
  have hw : ∀ i, i < n → wrongF (u i) (v i) = false := fun i hi => by
    cases hq : wrongF (u i) (v i) with
    | false => rfl
    | true => exact absurd (Or.inr (List.any_eq_true.2 ⟨i, List.mem_range.2 hi, hq⟩)) h3
  have hn : ∀ i, i < n → 0 ≤ (low (raw (u i) (v i))).1 := fun i hi => by
    have := hw i hi
    unfold wrongF at this
    rw [Bool.or_eq_false_iff] at this
    have hcan := of_decide_eq_true (show canF (u i) (v i) = true by simpa using this.1)
    have hneg := of_decide_eq_false this.2
    rw [← hcan.1, vS_cS] at hneg
    omega
  refine ⟨by omega, by omega, can_eq ?_, fun i hi => ?_, fun i hi => ?_, fun i hi => ?_, fun i hi => ?_, fun i hi => ?_, fun i hi => ⟨rfl, by have := hf.num (by omega) i hi; omega, by have := hf.den (by omega) i hi; omega⟩⟩
  · cases ht : isCan t with
    | true => rfl
    | false => exact absurd (Or.inl ht) h3
  · have := hn i hi; unfold nuN; omega
  · have := hp i; unfold deN; omega
  · have := hp i; unfold deN; omega
  · have := (hc i hi).1; have := hn i hi; unfold Cap at *; unfold nuN; omega
  · have := (hc i hi).2; have := hp i; unfold Cap at *; unfold deN; omega

theorem lcm_cap {de : Nat → Nat} {n c k : Nat} (hk : k ≤ n) (h : ∀ i, i < n → 0 < de i ∧ de i < 10 ^ c) : Num.lcmD de k < 10 ^ (c * n + 1) := by
  have h1 := Num.lcmD_le (de := de) (B := 10 ^ c) (k := k) (fun i hi => h i (by omega))
  rw [← Nat.pow_mul] at h1
  exact Nat.lt_of_le_of_lt h1 (Nat.pow_lt_pow_right (by decide) (by have := Nat.mul_le_mul_left c hk; omega))

set_option maxRecDepth 100000 in
set_option maxHeartbeats 8000000 in
theorem aCommon (w : World) (hG : Ground w) (t : ByteArray) (xa : Option Addr) (n cap : Nat) (u v : Nat → ByteArray) (hr : Rf w xa n u v) (h : GoodF t n u v) :
    Calls Tryz.prog 76 #[.slice xa n cap] w (StrPost w (Num.lcmD (deN u v) n : Nat)) := by
  have hn := h.few
  have HG := Lib.hid hG
  have HR := Lib.hid hr
  have HH := Lib.hid h
  obtain ⟨C, hC, hlc⟩ : ∃ C, C ≤ 1300 ∧ ∀ k, k ≤ n → Num.lcmD (deN u v) k < 10 ^ C := ⟨100 * n + 1, by omega, fun k hk => lcm_cap hk fun i hi => ⟨h.den0 i hi, h.capd i hi⟩⟩
  have HLC := Lib.hid hlc
  clear hlc
  clear hG hr h
  unfold StrPost
  go_enter Tryz.func76, Tryz.ntmps76
  go_wp2_with fail
  go_loopw [3, 13] (fun mv iv wr => ∃ k : Nat, k ≤ n ∧ iv = .int .i64 (k : Int) ∧ mv = .string (cS (Num.lcmD (deN u v) k : Nat)) ∧ Hid (Below w.heap.size w wr)) (fun _ iv _ => n - (intOf iv).toNat)
  case atStart => exact ⟨0, Nat.zero_le _, rfl, by rw [show Num.lcmD (deN u v) 0 = 1 from rfl]; exact congrArg Value.string cS_one.symm, Lib.hid (Below.refl _ _)⟩
  case round =>
    obtain ⟨k, hk, rfl, rfl, HB⟩ := hrel
    by_cases hlt : k < n
    · obtain ⟨b, o, rfl, hb, hc1, hc2⟩ := Rf.at (HR.out.belowAt HB.out (Nat.le_refl _)) hlt
      have HPA := Lib.hid (fun W' hW => fParts_v (z := low (raw (u k) (v k))) W' hW (HH.out.val k hlt) rfl)
      rw [HH.out.num k hlt, HH.out.den k hlt] at HPA
      have hdk := HH.out.capd k hlt
      have hd0 := HH.out.den0 k hlt
      have hlk := HLC.out k hk
      have hl0 : 0 < Num.lcmD (deN u v) k := Num.lcmD_pos fun i hi => HH.out.den0 i (by omega)
      obtain ⟨d, hd⟩ : ∃ d, deN u v k = d := ⟨_, rfl⟩
      obtain ⟨l, hl⟩ : ∃ l, Num.lcmD (deN u v) k = l := ⟨_, rfl⟩
      have HNX := Lib.hid (show Num.lcmD (deN u v) (k + 1) = l * (d / Nat.gcd d l) by rw [← hd, ← hl]; rfl)
      rw [hd] at HPA hdk hd0
      rw [hl] at hlk hl0 ⊢
      have hg0 : 0 < Nat.gcd d l := Nat.gcd_pos_of_pos_left _ hd0
      have hgl : Nat.gcd d l < 10 ^ 100 := Nat.lt_of_le_of_lt (Nat.gcd_le_left _ hd0) hdk
      have hfl : d / Nat.gcd d l < 10 ^ 100 := Nat.lt_of_le_of_lt (Nat.div_le_self _ _) hdk
      have HGC := Lib.hid (fun W' hW => gcd_v (a := cS (d : Nat)) (b := cS (l : Nat)) (z := ((Nat.gcd d l : Nat) : Int)) W' hW (natS_size hdk (by decide)) (natS_size hlk (by omega)) (vS_cS _) (vS_cS _) rfl)
      have HDV := Lib.hid (fun W' hW => div_v (a := cS (d : Nat)) (b := cS ((Nat.gcd d l : Nat) : Int)) (q := ((d / Nat.gcd d l : Nat) : Int)) (r := ((d % Nat.gcd d l : Nat) : Int)) W' hW (natS_size hdk (by decide)) (natS_size hgl (by decide)) (vS_cS _) (vS_cS _) (by omega) (nat_fdiv _ _) (nat_fmod _ _))
      have HML := Lib.hid (fun W' hW => mul_v (a := cS (l : Nat)) (b := cS ((d / Nat.gcd d l : Nat) : Int)) (z := ((l * (d / Nat.gcd d l) : Nat) : Int)) W' hW (natS_size hlk (by omega)) (natS_size hfl (by decide)) (vS_cS _) (vS_cS _) (Int.natCast_mul _ _).symm)
      unfold StrPost at HGC HML
      rw [← HNX.out] at HML
      obtain ⟨uk, huk⟩ : ∃ x, u k = x := ⟨_, rfl⟩
      obtain ⟨vk, hvk⟩ : ∃ x, v k = x := ⟨_, rfl⟩
      obtain ⟨sn, hsn⟩ : ∃ x, cS (nuN u v k : Nat) = x := ⟨_, rfl⟩
      obtain ⟨sd, hsd⟩ : ∃ x, cS (d : Nat) = x := ⟨_, rfl⟩
      obtain ⟨sl, hsl⟩ : ∃ x, cS (l : Nat) = x := ⟨_, rfl⟩
      obtain ⟨sg, hsg⟩ : ∃ x, cS ((Nat.gcd d l : Nat) : Int) = x := ⟨_, rfl⟩
      obtain ⟨sq, hsq⟩ : ∃ x, cS ((d / Nat.gcd d l : Nat) : Int) = x := ⟨_, rfl⟩
      obtain ⟨sr, hsr⟩ : ∃ x, cS ((d % Nat.gcd d l : Nat) : Int) = x := ⟨_, rfl⟩
      rw [hsn, hsd] at HPA
      rw [hsd, hsl, hsg] at HGC
      rw [hsd, hsg, hsq, hsr] at HDV
      rw [hsl, hsq] at HML
      rw [huk, hvk] at HPA
      rw [huk] at hc1
      rw [hvk] at hc2
      rw [hsl]
      clear hdk hd0 hlk hl0 hd hl hg0 hgl hfl huk hvk hsn hsd hsl hsg hsq hsr HNX
      go_upto_region 5 with fail
      obtain ⟨W3, hW3⟩ : ∃ W3, W3 = wr.alloc (.cells #[.string uk, .string vk] 36) := ⟨_, rfl⟩
      have hP : PairAt W3 wr.heap.size 36 uk vk := by rw [hW3]; exact PairAt.made _ _ _ _
      have hB3 : Below w.heap.size w W3 := by rw [hW3]; exact HB.out.alloc HB.out.size _
      rw [← hW3]
      clear hW3 hc1 hc2 HB
      obtain ⟨k0, k1, _, _⟩ := hP.cells
      go_wp2_with fail
      refine (HPA.out _ (HG.out.below hB3)).mono ?_
      rintro _ w4 ⟨rfl, hB4⟩
      replace hB3 := hB3.trans (hB4.mono hB3.size)
      clear hB4 k0 k1 hP
      go_wp2_with fail
      refine (HGC.out _ (HG.out.below hB3)).mono ?_
      rintro _ w5 ⟨rfl, hB4⟩
      replace hB3 := hB3.trans (hB4.mono hB3.size)
      clear hB4
      go_wp2_with fail
      refine (HDV.out _ (HG.out.below hB3)).mono ?_
      rintro _ w6 ⟨rfl, hB4⟩
      replace hB3 := hB3.trans (hB4.mono hB3.size)
      clear hB4
      go_wp2_with fail
      refine (HML.out _ (HG.out.below hB3)).mono ?_
      rintro _ w7 ⟨rfl, hB4⟩
      replace hB3 := hB3.trans (hB4.mono hB3.size)
      clear hB4
      go_wp2_with fail
      go_roundw
      case rel => exact ⟨k + 1, by omega, by simp, rfl, Lib.hid hB3⟩
      case measure => simp [intOf]; omega
    · obtain rfl : k = n := by omega
      go_wp2_with fail
      go_ret
      exact ⟨rfl, HB.out⟩

set_option maxRecDepth 100000 in
set_option maxHeartbeats 8000000 in
theorem aNums (w : World) (hG : Ground w) (t : ByteArray) (xa : Option Addr) (n cap : Nat) (u v : Nat → ByteArray) (hr : Rf w xa n u v) (h : GoodF t n u v) (M : Nat) (hM : Num.lcmD (deN u v) n = M) :
    Calls Tryz.prog 77 #[.slice xa n cap, .string (cS (M : Nat))] w fun e w' => ∃ P, w.heap.size ≤ P ∧ e = .returned (.slice (some ⟨P, 0, none⟩) n n) ∧ (RowC w' P 22 n fun i => .string (cS (Num.numW (nuN u v) (deN u v) M i : Nat))) ∧ Below w.heap.size w w' := by
  have hn := h.few
  have HG := Lib.hid hG
  have HR := Lib.hid hr
  have HH := Lib.hid h
  obtain ⟨C, hC, hlc⟩ : ∃ C, C ≤ 1300 ∧ ∀ k, k ≤ n → Num.lcmD (deN u v) k < 10 ^ C := ⟨100 * n + 1, by omega, fun k hk => lcm_cap hk fun i hi => ⟨h.den0 i hi, h.capd i hi⟩⟩
  have HM := Lib.hid (show M < 10 ^ C by rw [← hM]; exact hlc n (Nat.le_refl _))
  have hmake := run_makeStrs n (by omega)
  obtain ⟨P, hP⟩ : ∃ P, w.heap.size = P := ⟨_, rfl⟩
  obtain ⟨W2, hW2⟩ : ∃ W2, W2 = w.alloc (.cells (madeCells #[.string ⟨#[]⟩] n) 22) := ⟨_, rfl⟩
  have hPR : RowC W2 P 22 n (fun i => .string (firsts (Num.numW (nuN u v) (deN u v) M) 0 i)) := by
    rw [hW2, ← hP]
    exact (RowC.made w 22 (.string ⟨#[]⟩) n).congr fun i _ => by unfold firsts; rw [if_neg (by omega)]
  have HPR := Lib.hid hPR
  have HB2 := Lib.hid (show Below w.heap.size w W2 by rw [hW2]; exact (Below.refl _ _).alloc (Nat.le_refl _) _)
  have hPw : w.heap.size ≤ P := by omega
  have HW2 := Lib.hid hW2
  clear hG hr h hlc hPR hW2 hM
  obtain ⟨sm, hsm⟩ : ∃ x, cS (M : Nat) = x := ⟨_, rfl⟩
  rw [hsm]
  have HSM := Lib.hid hsm
  clear hsm
  go_enter Tryz.func77, Tryz.ntmps77
  go_wp2_with fail
  rw [← HW2.out]
  clear HW2
  try rw [hP]
  go_loopw [18] (fun iv wr => ∃ k : Nat, k ≤ n ∧ iv = .int .i64 (k : Int) ∧ Hid (RowC wr P 22 n (fun i => .string (firsts (Num.numW (nuN u v) (deN u v) M) k i))) ∧ Hid (Below w.heap.size w wr)) (fun iv _ => n - (intOf iv).toNat)
  case atStart => exact ⟨0, Nat.zero_le _, rfl, HPR, HB2⟩
  case round =>
    clear HPR HB2 hP
    obtain ⟨k, hk, rfl, HPR, HB⟩ := hrel
    by_cases hlt : k < n
    · obtain ⟨b, o, rfl, hb, hc1, hc2⟩ := Rf.at (HR.out.belowAt HB.out (Nat.le_refl _)) hlt
      have HPA := Lib.hid (fun W' hW => fParts_v (z := low (raw (u k) (v k))) W' hW (HH.out.val k hlt) rfl)
      rw [HH.out.num k hlt, HH.out.den k hlt] at HPA
      have hdk := HH.out.capd k hlt
      have hnk := HH.out.capn k hlt
      have hd0 := HH.out.den0 k hlt
      have hM1 := HM.out
      obtain ⟨d, hd⟩ : ∃ d, deN u v k = d := ⟨_, rfl⟩
      obtain ⟨e, he⟩ : ∃ e, nuN u v k = e := ⟨_, rfl⟩
      have HNX := Lib.hid (show Num.numW (nuN u v) (deN u v) M k = e * (M / d) by rw [← hd, ← he]; rfl)
      rw [hd, he] at HPA
      rw [hd] at hdk hd0
      rw [he] at hnk
      have hfl : M / d < 10 ^ C := Nat.lt_of_le_of_lt (Nat.div_le_self _ _) hM1
      have HDV := Lib.hid (fun W' hW => div_v (a := sm) (b := cS (d : Nat)) (q := ((M / d : Nat) : Int)) (r := ((M % d : Nat) : Int)) W' hW (by rw [← HSM.out]; exact natS_size hM1 (by omega)) (natS_size hdk (by decide)) (by rw [← HSM.out]; exact vS_cS _) (vS_cS _) (by omega) (nat_fdiv _ _) (nat_fmod _ _))
      have HML := Lib.hid (fun W' hW => mul_v (a := cS (e : Nat)) (b := cS ((M / d : Nat) : Int)) (z := ((e * (M / d) : Nat) : Int)) W' hW (natS_size hnk (by decide)) (natS_size hfl (by omega)) (vS_cS _) (vS_cS _) (Int.natCast_mul _ _).symm)
      unfold StrPost at HML
      rw [← HNX.out] at HML
      obtain ⟨uk, huk⟩ : ∃ x, u k = x := ⟨_, rfl⟩
      obtain ⟨vk, hvk⟩ : ∃ x, v k = x := ⟨_, rfl⟩
      obtain ⟨sn, hsn⟩ : ∃ x, cS (e : Nat) = x := ⟨_, rfl⟩
      obtain ⟨sd, hsd⟩ : ∃ x, cS (d : Nat) = x := ⟨_, rfl⟩
      obtain ⟨sq, hsq⟩ : ∃ x, cS ((M / d : Nat) : Int) = x := ⟨_, rfl⟩
      obtain ⟨sr, hsr⟩ : ∃ x, cS ((M % d : Nat) : Int) = x := ⟨_, rfl⟩
      obtain ⟨sx, hsx⟩ : ∃ x, cS (Num.numW (nuN u v) (deN u v) M k : Nat) = x := ⟨_, rfl⟩
      rw [huk, hvk, hsn, hsd] at HPA
      rw [hsd, hsq, hsr] at HDV
      rw [hsn, hsq, hsx] at HML
      rw [huk] at hc1
      rw [hvk] at hc2
      have HSX := Lib.hid hsx
      clear hdk hd0 hnk hM1 hd he hfl huk hvk hsn hsd hsq hsr hsx HNX
      go_upto_region 5 with fail
      obtain ⟨W3, hW3⟩ : ∃ W3, W3 = wr.alloc (.cells #[.string uk, .string vk] 36) := ⟨_, rfl⟩
      have hPk : PairAt W3 wr.heap.size 36 uk vk := by rw [hW3]; exact PairAt.made _ _ _ _
      have hB3 : Below w.heap.size w W3 := by rw [hW3]; exact HB.out.alloc HB.out.size _
      have HP3 := Lib.hid (show RowC W3 P 22 n (fun i => .string (firsts (Num.numW (nuN u v) (deN u v) M) k i)) by rw [hW3]; exact HPR.out.alloc _)
      rw [← hW3]
      clear hW3 hc1 hc2 HB HPR
      obtain ⟨k0, k1, _, _⟩ := hPk.cells
      go_wp2_with fail
      refine (HPA.out _ (HG.out.below hB3)).mono ?_
      rintro _ w4 ⟨rfl, hB4⟩
      have HP4 := Lib.hid (HP3.out.below hB4 HP3.out.lt)
      replace hB3 := hB3.trans (hB4.mono hB3.size)
      clear hB4 k0 k1 hPk HP3
      go_wp2_with fail
      refine (HDV.out _ (HG.out.below hB3)).mono ?_
      rintro _ w5 ⟨rfl, hB4⟩
      have HP5 := Lib.hid (HP4.out.below hB4 HP4.out.lt)
      replace hB3 := hB3.trans (hB4.mono hB3.size)
      clear hB4 HP4
      go_wp2_with fail
      refine (HML.out _ (HG.out.below hB3)).mono ?_
      rintro _ w6 ⟨rfl, hB4⟩
      have HP6 := Lib.hid (HP5.out.below hB4 HP5.out.lt)
      replace hB3 := hB3.trans (hB4.mono hB3.size)
      clear hB4 HP5
      have c1 := HP6.out.cell hlt
      have f1 := HP6.out.frozen k
      have HS := Lib.hid ((HP6.out.set k (.string sx)).congr (d := fun i => .string (firsts (Num.numW (nuN u v) (deN u v) M) (k + 1) i)) fun i hi => by
        rw [firsts_next, HSX.out]
        unfold upd
        split <;> rfl)
      have HBS := Lib.hid (hB3.setCell (p := ⟨P, k, none⟩) hPw (.string sx))
      clear HP6 hB3
      go_wp2_with fail
      go_roundw
      case rel => exact ⟨k + 1, by omega, by simp, HS, HBS⟩
      case measure => simp [intOf]; omega
    · obtain rfl : k = n := by omega
      go_wp2_with fail
      go_ret
      refine ⟨P, hPw, rfl, HPR.out.congr fun i hi => ?_, HB.out⟩
      simp only [firsts, if_pos hi]

set_option maxRecDepth 100000 in
set_option maxHeartbeats 8000000 in
theorem aFrac_bad (w : World) (hG : Ground w) (t : ByteArray) (xa : Option Addr) (n cap : Nat) (u v : Nat → ByteArray) (hr : Rf w xa n u v) (hf : FitF n t u v) (h : fracE t n u v ≠ 0) :
    Calls Tryz.prog 28 #[.string t, .slice xa n cap] w fun e w' => e = .returned (nilE (fracE t n u v)) ∧ Below w.heap.size w w' := by
  have HW := Lib.hid (aChkF w hG t xa n cap u v hr hf)
  obtain ⟨c, hc⟩ : ∃ c, fracE t n u v = c := ⟨_, rfl⟩
  rw [hc] at HW ⊢
  have hb : (c != 0) = true := by rw [bne_iff_ne, ← hc]; exact h
  clear hc h hr hf hG
  unfold nilE
  go_enter Tryz.func28, Tryz.ntmps28
  go_wp2_with fail
  refine HW.out.mono ?_
  rintro _ w1 ⟨rfl, hB⟩
  go_wp2_with fail
  go_ret2
  exact ⟨rfl, hB⟩

/-- the weights over the common denominator -/
def wfN (u v : Nat → ByteArray) (n : Nat) : Nat → Nat := Num.numW (nuN u v) (deN u v) (Num.lcmD (deN u v) n)
theorem GoodF.wcap {t : ByteArray} {n : Nat} {u v : Nat → ByteArray} (h : GoodF t n u v) {i : Nat} (hi : i < n) : Cap (100 * n + 101) (wfN u v n i : Nat) := by
  have h1 := h.capn i hi
  have h2 := lcm_cap (c := 100) (Nat.le_refl n) fun i hi => ⟨h.den0 i hi, h.capd i hi⟩
  unfold Cap wfN Num.numW
  rw [Int.natAbs_natCast, show 100 * n + 101 = 100 + (100 * n + 1) by omega, Nat.pow_add]
  exact Nat.mul_lt_mul'' h1 (Nat.lt_of_le_of_lt (Nat.div_le_self _ _) h2)
theorem sumS_cS {f : Nat → Nat} : ∀ {n : Nat}, sumS (fun i => cS (f i : Nat)) n = (Num.sumN f n : Nat)
  | 0 => rfl
  | n + 1 => by rw [sumS_succ, sumS_cS, vS_cS]; simp only [Num.sumN]; omega

set_option maxRecDepth 100000 in
set_option maxHeartbeats 8000000 in
theorem aFrac_sum (w : World) (hG : Ground w) (t : ByteArray) (xa : Option Addr) (n cap : Nat) (u v : Nat → ByteArray) (hr : Rf w xa n u v) (hf : FitF n t u v) (h : fracE t n u v = 0) (hs : Num.sumN (wfN u v n) n ≠ Num.lcmD (deN u v) n) :
    Calls Tryz.prog 28 #[.string t, .slice xa n cap] w fun e w' => e = .returned (nilE 9) ∧ Below w.heap.size w w' := by
  have hd := fracE_zero hf h
  have hn := hd.few
  have HW := Lib.hid (aChkF w hG t xa n cap u v hr hf)
  rw [h] at HW
  have HG := Lib.hid hG
  have HCM := Lib.hid (fun W hG hr => aCommon W hG t xa n cap u v hr hd)
  have HNU := Lib.hid (fun W hG hr => aNums W hG t xa n cap u v hr hd (Num.lcmD (deN u v) n) rfl)
  have HSM := Lib.hid (fun P W hG hr => aAddUp (some ⟨P, 0, none⟩) n n (100 * n + 101) (fun i => cS (wfN u v n i : Nat)) W hG hr ⟨by omega, by omega, by omega, fun i hi => by rw [vS_cS]; exact hd.wcap hi, fun i hi => by have := cS_size (hd.wcap hi); omega⟩)
  rw [sumS_cS] at HSM
  unfold StrPost at HCM HSM
  have HR := Lib.hid hr
  have hne : ((cS (Num.sumN (wfN u v n) n : Nat)).toList == (cS (Num.lcmD (deN u v) n : Nat)).toList) = false := by
    rw [beq_toList]
    exact decide_eq_false fun e => hs (by have := vS_cS (Num.sumN (wfN u v n) n : Nat); rw [e, vS_cS] at this; omega)
  obtain ⟨sm, hsm⟩ : ∃ x, cS (Num.lcmD (deN u v) n : Nat) = x := ⟨_, rfl⟩
  obtain ⟨ss, hss⟩ : ∃ x, cS (Num.sumN (wfN u v n) n : Nat) = x := ⟨_, rfl⟩
  rw [hsm] at HCM HNU hne
  rw [hss] at HSM hne
  unfold nilE
  clear h hr hf hG hd hs hsm hss
  go_enter Tryz.func28, Tryz.ntmps28
  go_wp2_with fail
  refine HW.out.mono ?_
  rintro _ w1 ⟨rfl, hB⟩
  go_wp2_with fail
  refine (HCM.out w1 (HG.out.below hB) (HR.out.belowAt hB (Nat.le_refl _))).mono ?_
  rintro _ w2 ⟨rfl, hB2⟩
  replace hB := hB.trans (hB2.mono hB.size)
  clear hB2
  go_wp2_with fail
  refine (HNU.out w2 (HG.out.below hB) (HR.out.belowAt hB (Nat.le_refl _))).mono ?_
  rintro _ w3 ⟨P, hP, rfl, hR, hB2⟩
  replace hB := hB.trans (hB2.mono hB.size)
  clear hB2
  go_wp2_with fail
  refine (HSM.out P w3 (HG.out.below hB) hR.rc).mono ?_
  rintro _ w4 ⟨rfl, hB2⟩
  have hR4 := hR.below hB2 hR.lt
  replace hB := hB.trans (hB2.mono hB.size)
  clear hB2 hR
  go_wp2_with fail
  go_ret2
  exact ⟨rfl, hB⟩

theorem GoodF.divAt {t : ByteArray} {n : Nat} {u v : Nat → ByteArray} (h : GoodF t n u v) (ht : t.size ≤ 1000) (hs : Num.sumN (wfN u v n) n = Num.lcmD (deN u v) n) : ∃ c, c ≤ 2200 ∧ DivAt (vS t).natAbs (Num.lcmD (deN u v) n) n (wfN u v n) c := by
  have hn := h.few
  refine ⟨1000 + 100 * n, by omega, h.pos, by omega, hs, Num.lcmD_pos h.den0, by omega, ?_, ?_⟩
  · exact (Cap.of ht rfl).mono (l := 1000 + 100 * n) (by omega)
  · exact Nat.lt_of_lt_of_le (lcm_cap (c := 100) (Nat.le_refl n) fun i hi => ⟨h.den0 i hi, h.capd i hi⟩) (Nat.pow_le_pow_right (by decide) (by omega))

set_option maxRecDepth 100000 in
set_option maxHeartbeats 8000000 in
theorem aFrac_ok (w : World) (hG : Ground w) (t : ByteArray) (xa : Option Addr) (n cap : Nat) (u v : Nat → ByteArray) (hr : Rf w xa n u v) (hf : FitF n t u v) (h : fracE t n u v = 0) (hs : Num.sumN (wfN u v n) n = Num.lcmD (deN u v) n) :
    Calls Tryz.prog 28 #[.string t, .slice xa n cap] w fun e w' => ∃ P, e = .returned (.tuple #[.slice (some ⟨P, 0, none⟩) n n, .int .i64 0]) ∧ (RowC w' P 22 n fun i => .string (cS (Num.splitP (vS t) (Num.lcmD (deN u v) n) (wfN u v n) n i))) ∧ Below w.heap.size w w' := by
  have hd := fracE_zero hf h
  have hn := hd.few
  have HW := Lib.hid (aChkF w hG t xa n cap u v hr hf)
  rw [h] at HW
  have HG := Lib.hid hG
  have HCM := Lib.hid (fun W hG hr => aCommon W hG t xa n cap u v hr hd)
  have HNU := Lib.hid (fun W hG hr => aNums W hG t xa n cap u v hr hd (Num.lcmD (deN u v) n) rfl)
  have HSM := Lib.hid (fun P W hG hr => aAddUp (some ⟨P, 0, none⟩) n n (100 * n + 101) (fun i => cS (wfN u v n i : Nat)) W hG hr ⟨by omega, by omega, by omega, fun i hi => by rw [vS_cS]; exact hd.wcap hi, fun i hi => by have := cS_size (hd.wcap hi); omega⟩)
  rw [sumS_cS] at HSM
  unfold StrPost at HCM HSM
  have HR := Lib.hid hr
  obtain ⟨c, _, hdiv⟩ := hd.divAt hf.t1 hs
  have HD := Lib.hid (fun P W hG hr => aDivide W hG (vS t) rfl hdiv (some ⟨P, 0, none⟩) n hr)
  rw [← hd.total] at HD
  rw [hs] at HSM
  obtain ⟨sm, hsm⟩ : ∃ x, cS (Num.lcmD (deN u v) n : Nat) = x := ⟨_, rfl⟩
  rw [hsm] at HCM HNU HSM HD
  clear h hr hf hG hd hs hsm hdiv
  go_enter Tryz.func28, Tryz.ntmps28
  go_wp2_with fail
  refine HW.out.mono ?_
  rintro _ w1 ⟨rfl, hB⟩
  go_wp2_with fail
  refine (HCM.out w1 (HG.out.below hB) (HR.out.belowAt hB (Nat.le_refl _))).mono ?_
  rintro _ w2 ⟨rfl, hB2⟩
  replace hB := hB.trans (hB2.mono hB.size)
  clear hB2
  go_wp2_with fail
  refine (HNU.out w2 (HG.out.below hB) (HR.out.belowAt hB (Nat.le_refl _))).mono ?_
  rintro _ w3 ⟨P, hP, rfl, hR, hB2⟩
  replace hB := hB.trans (hB2.mono hB.size)
  clear hB2
  go_wp2_with fail
  refine (HSM.out P w3 (HG.out.below hB) hR.rc).mono ?_
  rintro _ w4 ⟨rfl, hB2⟩
  have hR4 := hR.below hB2 hR.lt
  replace hB := hB.trans (hB2.mono hB.size)
  clear hB2 hR
  go_wp2_with fail
  refine (HD.out P w4 (HG.out.below hB) hR4.rc).mono ?_
  rintro _ w5 ⟨P5, rfl, hP5, hB2⟩
  go_wp2_with fail
  go_ret2
  exact ⟨P5, rfl, hP5, hB.trans (hB2.mono hB.size)⟩

end Go.Proofs.YthhihdihkddakaaGreatDoor

/- Layer 4: the same proportions; two slices that grow. -/
namespace Go.Proofs.YthhihdihkddakaaGreatDoor
open Go.RowKit Fra

namespace Num
theorem rk_congr {r r' : Nat → Nat} {n i : Nat} (hi : i < n) (h : ∀ j, j < n → r j = r' j) : rk r n i = rk r' n i := by
  unfold rk
  refine List.countP_congr fun j hj => ?_
  have hj := List.mem_range.1 hj
  unfold ahd
  rw [h j hj, h i hi]
theorem split_congr {T : Int} {W n i : Nat} {w w' : Nat → Nat} (hi : i < n) (h : ∀ j, j < n → w j = w' j) : splitP T W w n i = splitP T W w' n i := by
  have h1 : partP T.natAbs W w n i = partP T.natAbs W w' n i := by
    unfold partP missP
    rw [rk_congr (r' := remP T.natAbs W w') hi (fun j hj => by unfold remP; rw [h j hj]), sumN_congr (g := quoP T.natAbs W w') (fun j hj => by unfold quoP; rw [h j hj])]
    rw [show quoP T.natAbs W w i = quoP T.natAbs W w' i by unfold quoP; rw [h i hi]]
  unfold splitP
  rw [h1]
end Num

/-- weights are good -/
theorem weighE_ok {t : ByteArray} {n : Nat} {s : Nat → ByteArray} (h0 : 0 < n) (hn : n ≤ 1000) (ht : isCan t = true) (hc : ∀ i, i < n → isCan (s i) = true) (hp : ∀ i, i < n → 0 ≤ vS (s i)) (hs : sumS s n ≠ 0) : weighE t n s = 0 := by
  unfold weighE
  rw [if_neg (by omega), if_neg (by omega), if_neg, if_neg hs]
  rintro (h | h | h)
  · rw [ht] at h; exact absurd h (by decide)
  · rw [allC_iff.2 hc] at h; exact absurd h (by decide)
  · rw [negs_false.2 hp] at h; exact absurd h (by decide)

/-! ### Two slices that grow, of strings and of pairs -/
theorem own2 {w : World} {base : Nat} {x y : Value} {n m : Nat} {c d : Nat → Value} (h1 : OwnC w base 22 1 x n c) (h2 : OwnC w base 36 2 y m d) : (x.ownBlock = none ∨ x.ownBlock ≠ y.ownBlock) ∧ (y.ownBlock = none ∨ y.ownBlock ≠ x.ownBlock) := by
  rcases h1.2 with ⟨rfl, _⟩ | ⟨g, cap, cur, rfl, _, hg, _⟩
  · refine ⟨Or.inl rfl, ?_⟩
    rcases h2.2 with ⟨rfl, _⟩ | ⟨g', cap', cur', rfl, _, hg', _⟩
    · exact Or.inl rfl
    · exact Or.inr (by simp [Value.ownBlock])
  · rcases h2.2 with ⟨rfl, _⟩ | ⟨g', cap', cur', rfl, _, hg', _⟩
    · exact ⟨Or.inr (by simp [Value.ownBlock]), Or.inl rfl⟩
    · have hne : g ≠ g' := by
        intro e
        subst e
        rw [hg] at hg'
        simp at hg'
      exact ⟨Or.inr (by simpa [Value.ownBlock] using hne), Or.inr (by simpa [Value.ownBlock] using fun e => hne e.symm)⟩
theorem OwnS.add2 {w : World} {base : Nat} {v y : Value} {n m : Nat} {s : Nat → ByteArray} {d : Nat → Value} (h : OwnS w base v n s) (h2 : OwnC w base 36 2 y m d) (g : Nat) (hg : w.cell? ⟨g, 0, none⟩ = some (.string (s n))) (ty : TypeId) (hs : n + 1 ≤ 10000000) (hb : base ≤ w.heap.size) :
    ∃ v' w', (Builtin.append_ #[23, 23] ty #[v, .slice (some ⟨g, 0, none⟩) 1 1]).run Tryz.prog w = .ok v' w' ∧ OwnS w' base v' (n + 1) s ∧ OwnC w' base 36 2 y m d ∧ Below base w w' := by
  obtain ⟨i0, hi, hz0, hz1, hz2⟩ := info_parts info_Int
  obtain ⟨v', w', h1, h2', h3, _⟩ := run_append_own (P := Tryz.prog) w base 23 ty 22 i0 (.string ⟨#[]⟩) 1 16 Tryz.underlying23 hi hz0 hz1 hz2 rfl (by decide) v n _ h ⟨g, 0, none⟩ 1 1 [.string (s n)] rfl
    (fun j u hj => by
      match j, hj with
      | 0, hj => simp at hj; subst hj; simpa [Addr.add] using hg
      | j + 1, hj => simp at hj)
    (fun u hu => by simp at hu; subst hu; rfl) (by unfold maxLen; omega) (by omega) hb
  refine ⟨v', w', h1, ?_, World.ownsRow.kept h2 h3 (own2 h h2).2, (Below.refl base w).grown h3 hb (fun k hk => (World.ownsRow.lt h k hk).1)⟩
  unfold OwnS OwnC
  rw [Nat.mul_one, List.range_succ, List.map_append]
  rw [Nat.mul_one] at h2'
  exact h2'
theorem OwnF.add2 {w : World} {base : Nat} {x y : Value} {n m : Nat} {u v : Nat → ByteArray} {d : Nat → Value} (h : OwnF w base x n u v) (h2 : OwnC w base 22 1 y m d) (g : Nat) (hg : w.cell? ⟨g, 0, none⟩ = some (.string (u n))) (hg1 : w.cell? ⟨g, 1, none⟩ = some (.string (v n))) (ty : TypeId) (hs : n + 1 ≤ 10000000) (hb : base ≤ w.heap.size) :
    ∃ v' w', (Builtin.append_ #[29, 29] ty #[x, .slice (some ⟨g, 0, none⟩) 1 1]).run Tryz.prog w = .ok v' w' ∧ OwnF w' base v' (n + 1) u v ∧ OwnC w' base 22 1 y m d ∧ Below base w w' := by
  obtain ⟨i0, hi, hz0, hz1, hz2⟩ := info_parts info_Frac
  obtain ⟨v', w', h1, h2', h3, _⟩ := run_append_own (P := Tryz.prog) w base 29 ty 36 i0 (.agg #[.string ⟨#[]⟩, .string ⟨#[]⟩]) 2 32 Tryz.underlying29 hi hz0 hz1 hz2 rfl (by decide) x n _ h ⟨g, 0, none⟩ 1 1 [.string (u n), .string (v n)] rfl
    (fun j y hj => by
      match j, hj with
      | 0, hj => simp at hj; subst hj; simpa [Addr.add] using hg
      | 1, hj => simp at hj; subst hj; simpa [Addr.add] using hg1
      | j + 2, hj => simp at hj)
    (fun y hy => by simp at hy; rcases hy with rfl | rfl <;> rfl) (by unfold maxLen; omega) (by omega) hb
  refine ⟨v', w', h1, ?_, World.ownsRow.kept h2 h3 (own2 h2 h).1, (Below.refl base w).grown h3 hb (fun k hk => (World.ownsRow.lt h k hk).1)⟩
  unfold OwnF OwnC
  rw [show (n + 1) * 2 = n * 2 + 1 + 1 by omega, List.range_succ, List.range_succ, List.map_append, List.map_append, List.append_assoc]
  have e1 : (n * 2) % 2 = 0 := by omega
  have e2 : (n * 2) / 2 = n := by omega
  have e3 : (n * 2 + 1) % 2 ≠ 0 := by omega
  have e4 : (n * 2 + 1) / 2 = n := by omega
  simp only [List.map_cons, List.map_nil, if_pos e1, e2, if_neg e3, e4]
  exact h2'
theorem wp_addFrac2 {w : World} {ops : Array Oper} {rest : List Oper} {o : Oper} {a : Act} {Q : Exit → Act → World → Prop} (hgd : o.guard = none) (sl x : Operand)
    (ho : o.op = .call { callee := .builtin .append, args := #[sl, x], argTypes := #[29, 29] })
    (base : Nat) (v : Value) (n : Nat) (p q : Nat → ByteArray) {y : Value} {m : Nat} {d : Nat → Value} (hs : a.eval sl = v) (h : OwnF w base v n p q) (h2 : OwnC w base 22 1 y m d) (g : Nat) (hg : w.cell? ⟨g, 0, none⟩ = some (.string (p n))) (hg1 : w.cell? ⟨g, 1, none⟩ = some (.string (q n))) (hx : a.eval x = .slice (some ⟨g, 0, none⟩) 1 1) (hl : n + 1 ≤ 10000000) (hb : base ≤ w.heap.size)
    (hK : ∀ v' w', OwnF w' base v' (n + 1) p q → OwnC w' base 22 1 y m d → Below base w w' → wpList Tryz.prog ops Q rest (a.put o.dst v') w') : wpList Tryz.prog ops Q (o :: rest) a w := by
  refine wpList_plain hgd fun K hK' => ?_
  obtain ⟨v', w', hr, h3, h4, h5⟩ := h.add2 h2 g hg hg1 o.type hl hb
  unfold Oper.wp execOp
  simp only [ho, resolve, invoke, builtin, Sem.run_bind, Sem.run_pure, Result.andThen_ok, List.map_toArray, List.map_cons, List.map_nil, hs, hx, hr]
  exact hK' _ _ (hK v' w' h3 h4 h5)

end Go.Proofs.YthhihdihkddakaaGreatDoor

/- Layer 4: moving one unit makes the sum of the squares not less. -/
namespace Go.Proofs.YthhihdihkddakaaGreatDoor
open Fra

namespace Num
end Num

/-- z less the ideal part -/
def dif (z T : Int) (W m : Nat) : Int × Int := subP (z, 1) (red (T * (m : Nat)) (W : Nat))
theorem dif_eq {z T : Int} {W m : Nat} (h0 : 0 < W) : dif z T W m = red (z * (W : Nat) - T * (m : Nat)) (W : Nat) := by
  have hp : 0 < (red (T * (m : Nat)) (W : Nat)).2 := red_pos (by omega)
  have hW : (0 : Int) < (W : Nat) := by omega
  unfold dif
  rw [subP_eq Int.one_pos hp, negP_congr (z := (T * (m : Nat), (W : Nat))) hp hW (same_red _ _),
    addP_congr (x := (z, 1)) (z := (z, 1)) (w := (-(T * (m : Nat)), (W : Nat))) Int.one_pos (negP_pos (x := (T * (m : Nat), ((W : Nat) : Int))) hW) Int.one_pos hW rfl (same_red _ _)]
  unfold addP
  simp only [Int.mul_one, Int.one_mul]
  rw [Int.sub_eq_add_neg]
theorem dif_pos {z T : Int} {W m : Nat} (h0 : 0 < W) : 0 < (dif z T W m).2 := by rw [dif_eq h0]; exact red_pos (by omega)
theorem add_red {a b D : Int} (h0 : 0 < D) : addP (red a D) (red b D) = red (a * D + b * D) (D * D) := by
  rw [addP_congr (z := (a, D)) (w := (b, D)) (red_pos h0) (red_pos h0) h0 h0 (same_red _ _) (same_red _ _)]
  rfl
end Go.Proofs.YthhihdihkddakaaGreatDoor

/- The laws' own functions of layer 4: slices.Equal, Great: the walks. -/
namespace Go.Proofs.YthhihdihkddakaaGreatDoor
open Go.RowKit

/-- n strings are the same -/
def sameS (n : Nat) (s t : Nat → ByteArray) : Bool := decide (∀ i, i < n → s i = t i)
theorem sameS_true {n : Nat} {s t : Nat → ByteArray} (h : ∀ i, i < n → s i = t i) : sameS n s t = true := decide_eq_true h
set_option maxRecDepth 100000 in
set_option maxHeartbeats 1000000 in
theorem eqStr (w : World) (xa ya : Option Addr) (n cap cap' : Nat) (s t : Nat → ByteArray) (hx : Rs w xa n s) (hy : Rs w ya n t) (hlim : n ≤ 100000) :
    Calls Tryz.prog 22 #[.slice xa n cap, .slice ya n cap'] w fun e w' => e = .returned (.bool (sameS n s t)) ∧ Below w.heap.size w w' := by
  go_enter Tryz.func22, Tryz.ntmps22
  go_wp2_with fail
  go_loopw [13] (fun iv wr => ∃ k : Nat, k ≤ n ∧ iv = .int .i64 (k : Int) ∧ (∀ i, i < k → s i = t i) ∧ ∃ q, wr = w.drewN q) (fun iv _ => n - (intOf iv).toNat)
  case atStart => exact ⟨0, Nat.zero_le _, rfl, fun i hi => by omega, 0, rfl⟩
  case round =>
    obtain ⟨k, hk, rfl, hl, q, rfl⟩ := hrel
    have HL := Lib.hid hl
    clear hl
    by_cases hlt : k < n
    · obtain ⟨b, o, rfl, hb, hck⟩ := Rs.at hx hlt
      obtain ⟨b2, o2, rfl, hb2, hck2⟩ := Rs.at hy hlt
      obtain ⟨x, hxx⟩ : ∃ x, s k = x := ⟨_, rfl⟩
      obtain ⟨y, hyy⟩ : ∃ y, t k = y := ⟨_, rfl⟩
      rw [hxx] at hck
      rw [hyy] at hck2
      clear hx hy
      by_cases he : x = y
      · have HN := Lib.hid (show ∀ i, i < k + 1 → s i = t i from fun i hi => by
          by_cases e : i = k
          · rw [e, hxx, hyy, he]
          · exact HL.out i (by omega))
        subst he
        clear hxx hyy
        go_wp2_with fail
        go_quiet (fail)
        go_wp2_with fail
        go_roundw
        case rel => exact ⟨k + 1, by omega, by simp, HN.out, _, rfl⟩
        case measure => simp [intOf]; omega
      · have HN := Lib.hid (show sameS n s t = false from decide_eq_false fun h => he (by rw [← hxx, ← hyy]; exact h k hlt))
        have hne : (x.toList == y.toList) = false := by rw [beq_toList]; exact decide_eq_false he
        clear hxx hyy he
        go_wp2_with fail
        go_quiet (fail)
        go_wp2_with fail
        go_ret
        exact ⟨by rw [HN.out]; rfl, below_drewN (below_drewN (Below.refl _ _) _) _⟩
    · obtain rfl : k = n := by omega
      clear hx hy
      go_wp2_with fail
      go_ret
      exact ⟨by rw [sameS_true HL.out]; rfl, below_drewN (Below.refl _ _) _⟩

/-- a string of over 30 bytes -/
def over (s : ByteArray) : Bool := decide (30 < s.size)
set_option maxRecDepth 100000 in
set_option maxHeartbeats 1000000 in
theorem rOver (s : ByteArray) (w : World) :
    Calls Tryz.prog 48 #[.string s] w fun e w' => e = .returned (.bool (over s)) ∧ Below w.heap.size w w' := by
  by_cases h : (30 : Int) < s.size
  · have HD := Lib.hid (show over s = true from decide_eq_true (by omega))
    go_enter Tryz.func48, Tryz.ntmps48
    go_wp2_with fail
    go_ret
    exact ⟨by rw [HD.out]; simp, Below.refl _ _⟩
  · have HD := Lib.hid (show over s = false from decide_eq_false (by omega))
    go_enter Tryz.func48, Tryz.ntmps48
    go_wp2_with fail
    go_ret
    exact ⟨by rw [HD.out]; simp, Below.refl _ _⟩

/-- more, or longer, strings than the laws examine -/
def great (n : Nat) (s : Nat → ByteArray) : Bool := decide (12 < n ∧ n ≤ 1000) || (decide (1005 < n) || (List.range n).any fun i => over (s i))
theorem great_false {n : Nat} {s : Nat → ByteArray} (h : great n s = false) : (n ≤ 12 ∨ (1000 < n ∧ n ≤ 1005)) ∧ ∀ i, i < n → (s i).size ≤ 30 := by
  unfold great at h
  rw [Bool.or_eq_false_iff, Bool.or_eq_false_iff] at h
  obtain ⟨h1, h2, h3⟩ := h
  have h1 := of_decide_eq_false h1
  have h2 := of_decide_eq_false h2
  refine ⟨by omega, fun i hi => ?_⟩
  rw [List.any_eq_false] at h3
  have := h3 i (List.mem_range.2 hi)
  unfold over at this
  simp at this
  omega
set_option maxRecDepth 100000 in
set_option maxHeartbeats 1000000 in
theorem rGreat (w : World) (hG : Ground w) (xa : Option Addr) (n cap : Nat) (s : Nat → ByteArray) (hr : Rs w xa n s) (hmax : n ≤ 9223372036854775807) :
    Calls Tryz.prog 12 #[.slice xa n cap] w fun e w' => e = .returned (.bool (great n s)) ∧ Below w.heap.size w w' := by
  by_cases h1 : 12 < n ∧ n ≤ 1000
  · have HD := Lib.hid (show great n s = true by unfold great; rw [decide_eq_true h1]; rfl)
    have i1 : (12 : Int) < n := by omega
    have i2 : (n : Int) ≤ 1000 := by omega
    clear h1 hr hmax
    go_enter Tryz.func12, Tryz.ntmps12
    go_wp2_with fail
    go_ret
    exact ⟨by rw [HD.out]; simp, Below.refl _ _⟩
  · by_cases h2 : 1005 < n
    · have HD := Lib.hid (show great n s = true by unfold great; rw [decide_eq_true h2]; simp)
      have i1 : (12 : Int) < n := by omega
      have i2 : ¬ (n : Int) ≤ 1000 := by omega
      have i3 : (1005 : Int) < n := by omega
      clear h1 h2 hr hmax
      go_enter Tryz.func12, Tryz.ntmps12
      go_wp2_with fail
      go_ret
      exact ⟨by rw [HD.out]; simp, Below.refl _ _⟩
    · have HH := Lib.hid (hasGreat w hG xa n cap s hr (by omega) (fun i => over (s i)) (fun i _ W _ => rOver (s i) W))
      have HD := Lib.hid (show great n s = (List.range n).any fun i => over (s i) by unfold great; rw [decide_eq_false h1, decide_eq_false h2]; rfl)
      rw [← HD.out] at HH
      have i3 : ¬ (1005 : Int) < n := by omega
      by_cases i1 : (12 : Int) < n
      · have i2 : ¬ (n : Int) ≤ 1000 := by omega
        clear h1 h2 hr hmax HD
        go_enter Tryz.func12, Tryz.ntmps12
        go_wp2_with fail
        refine HH.out.mono ?_
        rintro _ w1 ⟨rfl, hB⟩
        go_wp2_with fail
        go_ret
        exact ⟨rfl, hB⟩
      · clear h1 h2 hr hmax HD
        go_enter Tryz.func12, Tryz.ntmps12
        go_wp2_with fail
        refine HH.out.mono ?_
        rintro _ w1 ⟨rfl, hB⟩
        go_wp2_with fail
        go_ret
        exact ⟨rfl, hB⟩

end Go.Proofs.YthhihdihkddakaaGreatDoor

/- The laws' awake of layer 4: the walk. -/
namespace Go.Proofs.YthhihdihkddakaaGreatDoor
open Go.RowKit Fra

def tri (t p q : ByteArray) : Nat → ByteArray := fun i => if i = 0 then t else if i = 1 then p else q
theorem Rs.tri (w : World) (t p q : ByteArray) (ty : TypeId) : Rs (w.alloc (.cells #[.string t, .string p, .string q] ty)) (some ⟨w.heap.size, 0, none⟩) 3 (tri t p q) := Rs.three w t p q ty
theorem fitW_tri {u t p q : ByteArray} (hu : u.size ≤ 1000) (ht : t.size ≤ 1000) (hp : p.size ≤ 1000) (hq : q.size ≤ 1000) : FitW 3 u (tri t p q) :=
  ⟨by omega, by omega, hu, fun _ i _ => by
    unfold YthhihdihkddakaaGreatDoor.tri
    by_cases h : i = 0
    · rw [if_pos h]; exact ht
    · rw [if_neg h]
      by_cases g : i = 1
      · rw [if_pos g]; exact hp
      · rw [if_neg g]; exact hq⟩
theorem aw_share : Ret 26 #[.string ⟨#[53]⟩, .string ⟨#[49]⟩, .string ⟨#[50]⟩] (shareV ⟨#[50]⟩ ⟨#[51]⟩ 0) := by
  have := aShare_ok (t := ⟨#[53]⟩) (p := ⟨#[49]⟩) (q := ⟨#[50]⟩) (by decide) (by decide) (by decide) (by decide +kernel) (by decide +kernel) (z := 2) (by decide +kernel) (by decide +kernel)
  rw [show cS 2 = ⟨#[50]⟩ by decide +kernel, show cS (vS ⟨#[53]⟩ - 2) = ⟨#[51]⟩ by decide +kernel] at this
  exact this

set_option maxRecDepth 100000 in
set_option maxHeartbeats 4000000 in
theorem aawake : Ret 13 #[] (.bool true) := by
  intro w hG
  have HG := Lib.hid hG
  have g1 : weighE ⟨#[49, 48, 48]⟩ 3 (tri ⟨#[49]⟩ ⟨#[49]⟩ ⟨#[49]⟩) = 0 := by decide +kernel
  have g2 : weighE ⟨#[45, 55]⟩ 3 (tri ⟨#[49]⟩ ⟨#[]⟩ ⟨#[50]⟩) = 0 := by decide +kernel
  have v1 : sameS 3 (fun i => cS (Num.splitP (vS ⟨#[49, 48, 48]⟩) (Num.sumN (wtN (tri ⟨#[49]⟩ ⟨#[49]⟩ ⟨#[49]⟩)) 3) (wtN (tri ⟨#[49]⟩ ⟨#[49]⟩ ⟨#[49]⟩)) 3 i)) (tri ⟨#[51, 52]⟩ ⟨#[51, 51]⟩ ⟨#[51, 51]⟩) = true := by decide +kernel
  have v2 : sameS 3 (fun i => cS (Num.splitP (vS ⟨#[45, 55]⟩) (Num.sumN (wtN (tri ⟨#[49]⟩ ⟨#[]⟩ ⟨#[50]⟩)) 3) (wtN (tri ⟨#[49]⟩ ⟨#[]⟩ ⟨#[50]⟩)) 3 i)) (tri ⟨#[45, 50]⟩ ⟨#[]⟩ ⟨#[45, 53]⟩) = true := by decide +kernel
  have v3 : sameS 3 (fun i => cS (Num.runP (vS ⟨#[49, 48, 48]⟩) (Num.sumN (wtN (tri ⟨#[49]⟩ ⟨#[49]⟩ ⟨#[49]⟩)) 3) (wtN (tri ⟨#[49]⟩ ⟨#[49]⟩ ⟨#[49]⟩)) i)) (tri ⟨#[51, 51]⟩ ⟨#[51, 51]⟩ ⟨#[51, 52]⟩) = true := by decide +kernel
  have one : ∀ t p q : ByteArray, t.size ≤ 1000 → p.size ≤ 1000 → q.size ≤ 1000 → ∀ W : World, Rs (W.alloc (.cells #[.string t, .string p, .string q] 22)) (some ⟨W.heap.size, 0, none⟩) 3 (tri t p q) := fun t p q _ _ _ W => Rs.tri W t p q _
  have H1 := Lib.hid (fun W hW => aSplit_ok (W.alloc (.cells #[.string ⟨#[49]⟩, .string ⟨#[49]⟩, .string ⟨#[49]⟩] 22)) hW ⟨#[49, 48, 48]⟩ (some ⟨W.heap.size, 0, none⟩) 3 3 _ (Rs.tri W _ _ _ _) (fitW_tri (by decide) (by decide) (by decide) (by decide)) g1)
  have H2 := Lib.hid (fun W hW => aSplit_ok (W.alloc (.cells #[.string ⟨#[49]⟩, .string ⟨#[]⟩, .string ⟨#[50]⟩] 22)) hW ⟨#[45, 55]⟩ (some ⟨W.heap.size, 0, none⟩) 3 3 _ (Rs.tri W _ _ _ _) (fitW_tri (by decide) (by decide) (by decide) (by decide)) g2)
  have H3 := Lib.hid (fun W hW => aRun_ok (W.alloc (.cells #[.string ⟨#[49]⟩, .string ⟨#[49]⟩, .string ⟨#[49]⟩] 22)) hW ⟨#[49, 48, 48]⟩ (some ⟨W.heap.size, 0, none⟩) 3 3 _ (Rs.tri W _ _ _ _) (fitW_tri (by decide) (by decide) (by decide) (by decide)) g1)
  have V1 := Lib.hid (of_decide_eq_true v1)
  have V2 := Lib.hid (of_decide_eq_true v2)
  have V3 := Lib.hid (of_decide_eq_true v3)
  clear g1 g2 v1 v2 v3 hG one
  have hmax4 : ∀ W : World, (Builtin.max_ #[26, 26, 26, 26] 26 #[.int .i64 0, .int .i64 0, .int .i64 0, .int .i64 0]).run Tryz.prog W = .ok (.int .i64 0) W := fun W => by simp [Builtin.max_, Builtin.max2]
  have hal : ∀ W : World, Below w.heap.size w W → ∀ o, Below w.heap.size w (W.alloc o) := fun W h o => h.alloc h.size o
  go_enter Tryz.func13, Tryz.ntmps13
  go_wp2_with fail
  refine (H1.out w (HG.out.alloc _)).mono ?_
  rintro _ w1 ⟨P, rfl, hP, hB1⟩
  have hr1 : Rs w1 (some ⟨P, 0, none⟩) 3 (tri ⟨#[51, 52]⟩ ⟨#[51, 51]⟩ ⟨#[51, 51]⟩) := Rs.congr hP.rc fun i hi => (V1.out i hi).symm
  have hb1 : Below w.heap.size w w1 := (hal w (Below.refl _ _) _).trans (hB1.mono (by simp))
  clear hB1 hP V1 H1
  go_wp2_with fail
  refine (H2.out w1 ((HG.out.below hb1).alloc _)).mono ?_
  rintro _ w2 ⟨Q, rfl, hQ, hB2⟩
  have hr2 : Rs w2 (some ⟨Q, 0, none⟩) 3 (tri ⟨#[45, 50]⟩ ⟨#[]⟩ ⟨#[45, 53]⟩) := Rs.congr hQ.rc fun i hi => (V2.out i hi).symm
  have hb2 : Below w.heap.size w w2 := (hal w1 hb1 _).trans (hB2.mono (by have := hb1.size; simp; omega))
  replace hr1 := (hr1.alloc _).below hB2
  clear hB2 hQ V2 H2 hb1
  go_wp2_with fail
  refine (H3.out w2 ((HG.out.below hb2).alloc _)).mono ?_
  rintro _ w3 ⟨R, rfl, hR, hB3⟩
  have hr3 : Rs w3 (some ⟨R, 0, none⟩) 3 (tri ⟨#[51, 51]⟩ ⟨#[51, 51]⟩ ⟨#[51, 52]⟩) := Rs.congr hR.rc fun i hi => (V3.out i hi).symm
  have hb3 : Below w.heap.size w w3 := (hal w2 hb2 _).trans (hB3.mono (by have := hb2.size; simp; omega))
  replace hr1 := (hr1.alloc _).below hB3
  replace hr2 := (hr2.alloc _).below hB3
  clear hB3 hR V3 H3 hb2
  go_wp2_with fail
  refine (aw_share w3 (HG.out.below hb3)).mono ?_
  rintro _ w4 ⟨rfl, hB4⟩
  have hb4 := hb3.trans (hB4.mono hb3.size)
  replace hr1 := hr1.below hB4
  replace hr2 := hr2.below hB4
  replace hr3 := hr3.below hB4
  clear hB4 hb3
  go_wp2_with fail
  have E1 := Lib.hid (eqStr _ _ _ 3 3 3 _ _ (hr1.alloc (.cells #[.string ⟨#[51, 52]⟩, .string ⟨#[51, 51]⟩, .string ⟨#[51, 51]⟩] 22)) (Rs.tri w4 ⟨#[51, 52]⟩ ⟨#[51, 51]⟩ ⟨#[51, 51]⟩ 22) (by decide))
  rw [sameS_true (fun _ _ => rfl)] at E1
  refine E1.out.mono ?_
  rintro _ w5 ⟨rfl, hB5⟩
  have hb5 := (hal w4 hb4 _).trans (hB5.mono (by have := hb4.size; simp; omega))
  replace hr2 := (hr2.alloc _).below hB5
  replace hr3 := (hr3.alloc _).below hB5
  clear hB5 hb4 hr1 E1
  go_wp2_with fail
  have E2 := Lib.hid (eqStr _ _ _ 3 3 3 _ _ (hr2.alloc (.cells #[.string ⟨#[45, 50]⟩, .string ⟨#[]⟩, .string ⟨#[45, 53]⟩] 22)) (Rs.tri w5 ⟨#[45, 50]⟩ ⟨#[]⟩ ⟨#[45, 53]⟩ 22) (by decide))
  rw [sameS_true (fun _ _ => rfl)] at E2
  refine E2.out.mono ?_
  rintro _ w6 ⟨rfl, hB6⟩
  have hb6 := (hal w5 hb5 _).trans (hB6.mono (by have := hb5.size; simp; omega))
  replace hr3 := (hr3.alloc _).below hB6
  clear hB6 hb5 hr2 E2
  go_wp2_with fail
  have E3 := Lib.hid (eqStr _ _ _ 3 3 3 _ _ (hr3.alloc (.cells #[.string ⟨#[51, 51]⟩, .string ⟨#[51, 51]⟩, .string ⟨#[51, 52]⟩] 22)) (Rs.tri w6 ⟨#[51, 51]⟩ ⟨#[51, 51]⟩ ⟨#[51, 52]⟩ 22) (by decide))
  rw [sameS_true (fun _ _ => rfl)] at E3
  refine E3.out.mono ?_
  rintro _ w7 ⟨rfl, hB7⟩
  have hb7 := (hal w6 hb6 _).trans (hB7.mono (by have := hb6.size; simp; omega))
  clear hB7 hb6 hr3 E3
  go_wp2_with fail
  go_ret
  exact ⟨rfl, hb7⟩

end Go.Proofs.YthhihdihkddakaaGreatDoor

/- The laws' size; the law AllocateParts: the walk. -/
namespace Go.Proofs.YthhihdihkddakaaGreatDoor
open Go.RowKit Fra

/-- the strings of a written list -/
def litS (l : List ByteArray) (i : Nat) : ByteArray := l.getD i ⟨#[]⟩
theorem Rs.lit (w : World) (l : List ByteArray) (ty : TypeId) : Rs (w.alloc (.cells (l.map Value.string).toArray ty)) (some ⟨w.heap.size, 0, none⟩) l.length (litS l) :=
  ⟨fun _ => ⟨w.heap.size, 0, rfl, by simp, fun i hi => by
    rw [cell_of_row _ _ _ _ _ _ (heap_alloc_new _ _)]
    simp [litS, hi]⟩⟩
theorem litS_all {l : List ByteArray} {k : Nat} (h : ∀ i, i < l.length → (litS l i).size ≤ k) : ∀ s ∈ l, s.size ≤ k := by
  intro s hs
  obtain ⟨i, hi, e⟩ := List.getElem_of_mem hs
  have := h i hi
  unfold litS at this
  simp [hi, e] at this
  exact this
theorem rGreat_lit (w : World) (hG : Ground w) (l : List ByteArray) (hl : l.length ≤ 12) :
    Calls Tryz.prog 12 #[.slice (some ⟨w.heap.size, 0, none⟩) l.length l.length] (w.alloc (.cells (l.map Value.string).toArray 22)) fun e w' => e = .returned (.bool (great l.length (litS l))) ∧ Below w.heap.size w w' :=
  (rGreat _ (hG.alloc _) _ _ _ _ (Rs.lit w l _) (by omega)).mono fun _ _ h => ⟨h.1, ((Below.refl _ w).alloc (Nat.le_refl _) _).trans (h.2.mono (by simp))⟩

theorem rnd_cap4 {k : Nat} {m : Int} {x : Int × Int} (h : Cap k x.1) (hx : 0 < x.2) : Cap (k + 2) (rnd m x) := by
  have h1 := Cap.fdiv' h hx
  rcases rnd_range m (x := x) with e | e
  · rw [e]; exact h1.mono (by omega)
  · rw [e]; exact h1.add (Cap.one (by omega))
/-- what shareE says where it says nothing -/
structure ShareOk (t p q : ByteArray) : Prop where
  te : t = cS (vS t)
  pc : isCan p = true
  qc : isCan q = true
  tc : isCan t = true
  pos : 0 < vS q
  p0 : 0 ≤ vS p
  pq : vS p ≤ vS q
theorem ShareOk.shareE {t p q : ByteArray} (h : ShareOk t p q) : shareE t p q = 0 := by
  unfold YthhihdihkddakaaGreatDoor.shareE
  rw [if_neg (by unfold can3; rw [h.tc, h.pc, h.qc]; decide), if_neg (by have := h.pos; omega), if_neg (by have := h.p0; have := h.pq; omega)]
end Go.Proofs.YthhihdihkddakaaGreatDoor

/- the law AllocateSums: the walk. -/
namespace Go.Proofs.YthhihdihkddakaaGreatDoor
open Go.RowKit

theorem eq_nil_str {s : ByteArray} (h : (s.toList == []) = true) : s = ⟨#[]⟩ := by
  rw [show ([] : List UInt8) = (ByteArray.mk #[]).toList by decide +kernel, beq_toList] at h
  exact of_decide_eq_true h
theorem ne_nil_str {s : ByteArray} (h : s ≠ ⟨#[]⟩) : (s.toList == []) = false := by
  rw [show ([] : List UInt8) = (ByteArray.mk #[]).toList by decide +kernel, beq_toList]
  exact decide_eq_false h

end Go.Proofs.YthhihdihkddakaaGreatDoor
