/- The reference of layer 4: what Fractions finds on its way. -/
import Derived.Test.YthhihdihkddakaaGreatDoorZShT
import Derived.Deep.DeepCutAuto
namespace Go.Proofs.YthhihdihkddakaaGreatDoor
open Go.RowKit Fra

/-- few short fractions, or too many -/
structure FitG (n : Nat) (t : ByteArray) (u v : Nat → ByteArray) : Prop where
  few : n ≤ 6 ∨ 1000 < n
  max : n ≤ 100000
  t1 : t.size ≤ 30
  num : n ≤ 1000 → ∀ i, i < n → (u i).size ≤ 12
  den : n ≤ 1000 → ∀ i, i < n → (v i).size ≤ 12
theorem FitG.fitF {n : Nat} {t : ByteArray} {u v : Nat → ByteArray} (h : FitG n t u v) : FitF n t u v :=
  ⟨by have := h.few; omega, h.max, by have := h.t1; omega, fun hn i hi => by have := h.num hn i hi; omega, fun hn i hi => by have := h.den hn i hi; omega⟩

theorem Num.prodD_le {de : Nat → Nat} {B : Nat} : ∀ {k : Nat}, (∀ i, i < k → de i ≤ B) → Num.prodD de k ≤ B ^ k
  | 0, _ => by simp [Num.prodD]
  | k + 1, h => by
    have h1 := Num.prodD_le (de := de) (B := B) (k := k) (fun i hi => h i (by omega))
    rw [Nat.pow_succ]
    exact Nat.mul_le_mul h1 (h k (by omega))

/-- the sum of the first k fractions, over X -/
def fsP (nu de : Nat → Nat) (X k : Nat) : Int × Int := red (Num.sumN (Num.numW nu de X) k : Nat) (X : Nat)
def fsN (nu de : Nat → Nat) (X k : Nat) : ByteArray := cS (fsP nu de X k).1
def fsD (nu de : Nat → Nat) (X k : Nat) : ByteArray := cD (fsP nu de X k).2

/-- the calls on Fractions' way -/
structure RfData (n : Nat) (u v : Nat → ByteArray) (nu de : Nat → Nat) (X : Nat) : Prop where
  few : n ≤ 6
  x0 : 0 < X
  xc : X < 10 ^ 73
  bad : ∀ i, i < n → canF (u i) (v i) = false → Ret 79 #[.agg #[.string (u i), .string (v i)]] (.int .i64 1)
  good : ∀ i, i < n → canF (u i) (v i) = true → Ret 79 #[.agg #[.string (u i), .string (v i)]] (.int .i64 0)
  cmp : ∀ i, i < n → canF (u i) (v i) = true → ∃ c : Int, (c < 0 ↔ vS (u i) < 0) ∧ Ret 58 #[.agg #[.string (u i), .string (v i)], .agg #[.string ⟨#[]⟩, .string ⟨#[]⟩]] (.int .i64 c)
  add : ∀ k, k < n → wrongF (u k) (v k) = false → Ret 67 #[.agg #[.string (fsN nu de X k), .string (fsD nu de X k)], .agg #[.string (u k), .string (v k)]] (.agg #[.string (fsN nu de X (k + 1)), .string (fsD nu de X (k + 1))])
  parts : ∀ k, k < n → wrongF (u k) (v k) = false → Ret 80 #[.agg #[.string (u k), .string (v k)]] (.tuple #[.string (cS (nu k : Nat)), .string (cS (de k : Nat))])
  mul : ∀ k, k < n → Ret 64 #[.string (cS (Num.prodD de k : Nat)), .string (cS (de k : Nat))] (.string (cS (Num.prodD de (k + 1) : Nat)))
  one : Ret 54 #[.string ⟨#[49]⟩] (.agg #[.string ⟨#[49]⟩, .string ⟨#[]⟩])
  of : Ret 54 #[.string (cS (X : Nat))] (.agg #[.string (cS (X : Nat)), .string ⟨#[]⟩])
  over : ∀ k, k < n → wrongF (u k) (v k) = false → ∃ a b, Ret 81 #[.agg #[.string (u k), .string (v k)], .agg #[.string (cS (X : Nat)), .string ⟨#[]⟩]] (.agg #[.string a, .string b]) ∧ Ret 52 #[.agg #[.string a, .string b]] (.string (cS (Num.numW nu de X k : Nat)))
  n0 : fsN nu de X 0 = ⟨#[]⟩
  d0 : fsD nu de X 0 = ⟨#[]⟩
  whole : fsN nu de X n = ⟨#[49]⟩ ∧ fsD nu de X n = ⟨#[]⟩ ↔ Num.sumN (Num.numW nu de X) n = X

theorem rf_data {n : Nat} {t : ByteArray} {u v : Nat → ByteArray} (hf : FitG n t u v) (hn : n ≤ 1000) : RfData n u v (nuN u v) (deN u v) (Num.prodD (deN u v) n) := by
  have hfew := hf.few
  have hu := hf.num hn
  have hv := hf.den hn
  have hc : ∀ i, i < n → CapP 12 (low (raw (u i) (v i))) := fun i hi => CapP.low (CapP.of_raw (by decide) (hu i hi) (hv i hi)) (raw_pos _ _)
  have hp : ∀ i, 0 < (low (raw (u i) (v i))).2 := fun i => low_pos (raw_pos _ _)
  have hden : ∀ i, (low (raw (u i) (v i))).2 = (deN u v i : Nat) := fun i => by have := hp i; unfold deN; omega
  have hd0 : ∀ i, 0 < deN u v i := fun i => by have := hp i; unfold deN; omega
  have hdc : ∀ i, i < n → deN u v i < 10 ^ 12 := fun i hi => by have := (hc i hi).2; have := hp i; unfold Cap at *; unfold deN; omega
  have hnc : ∀ i, i < n → nuN u v i < 10 ^ 12 := fun i hi => by have := (hc i hi).1; unfold Cap at *; unfold nuN; omega
  have hpc : ∀ k, k ≤ n → Num.prodD (deN u v) k < 10 ^ 73 := fun k hk => by
    have h1 := Num.prodD_le (de := deN u v) (B := 10 ^ 12) (k := k) (fun i hi => Nat.le_of_lt (hdc i (by omega)))
    rw [← Nat.pow_mul] at h1
    exact Nat.lt_of_le_of_lt h1 (Nat.pow_lt_pow_right (by decide) (by omega))
  have hX0 : 0 < Num.prodD (deN u v) n := Num.prodD_pos fun i _ => hd0 i
  have hXc := hpc n (Nat.le_refl _)
  have hdv : ∀ i, i < n → deN u v i ∣ Num.prodD (deN u v) n := fun i hi => Num.dvd_prodD hi
  obtain ⟨X, hX⟩ : ∃ X, Num.prodD (deN u v) n = X := ⟨_, rfl⟩
  rw [hX] at hX0 hXc hdv ⊢
  have hX1 : (0 : Int) < (X : Nat) := by omega
  have hnw : ∀ i, i < n → Num.numW (nuN u v) (deN u v) X i < 10 ^ 85 := fun i hi => by
    unfold Num.numW
    rw [show (85 : Nat) = 12 + 73 from rfl, Nat.pow_add]
    exact Nat.mul_lt_mul'' (hnc i hi) (Nat.lt_of_le_of_lt (Nat.div_le_self _ _) hXc)
  have hsc : ∀ k, k ≤ n → Num.sumN (Num.numW (nuN u v) (deN u v) X) k ≤ k * 10 ^ 85 := fun k => by
    induction k with
    | zero => intro _; simp [Num.sumN]
    | succ k ih =>
      intro hk
      have h1 := ih (by omega)
      have h2 := hnw k (by omega)
      simp only [Num.sumN]
      omega
  have hsc' : ∀ k, k ≤ n → Num.sumN (Num.numW (nuN u v) (deN u v) X) k < 10 ^ 86 := fun k hk => by have := hsc k hk; omega
  have hfs : ∀ k, k ≤ n → CapP 86 (fsP (nuN u v) (deN u v) X k) := fun k hk => CapP.of_red hX1 (by have := hsc' k hk; unfold Cap; omega) (by unfold Cap; omega)
  have hcan : ∀ i, wrongF (u i) (v i) = false → canF (u i) (v i) = true ∧ ¬ vS (u i) < 0 := fun i h => by
    unfold wrongF at h
    rw [Bool.or_eq_false_iff] at h
    exact ⟨by simpa using h.1, of_decide_eq_false h.2⟩
  have hceq : ∀ i, canF (u i) (v i) = true → cS (low (raw (u i) (v i))).1 = u i ∧ cD (low (raw (u i) (v i))).2 = v i := fun i h => of_decide_eq_true h
  have hrw : ∀ i, canF (u i) (v i) = true → raw (u i) (v i) = low (raw (u i) (v i)) := fun i h => by
    have h1 := raw_can (hp i)
    rw [(hceq i h).1, (hceq i h).2] at h1
    exact h1
  have hnum : ∀ i, wrongF (u i) (v i) = false → (low (raw (u i) (v i))).1 = (nuN u v i : Nat) := fun i h => by
    obtain ⟨h1, h2⟩ := hcan i h
    rw [← (hceq i h1).1, vS_cS] at h2
    unfold nuN
    omega
  have hval : ∀ i, wrongF (u i) (v i) = false → raw (u i) (v i) = (((nuN u v i : Nat) : Int), ((deN u v i : Nat) : Int)) := fun i h => by
    rw [hrw i (hcan i h).1, ← hnum i h, ← hden i]
  have hlred : ∀ i, wrongF (u i) (v i) = false → red (nuN u v i : Nat) (deN u v i : Nat) = (((nuN u v i : Nat) : Int), ((deN u v i : Nat) : Int)) := fun i h => by
    have h1 := hval i h
    have h2 := hrw i (hcan i h).1
    rw [h1] at h2
    exact h2.symm
  refine ⟨by omega, hX0, hXc, fun i hi h W hW => ?_, fun i hi h W hW => ?_, fun i hi h => ?_, fun k hk h W hW => ?_, fun k hk h W hW => ?_, fun k hk W hW => ?_, fun W hW => ?_, fun W hW => ?_, fun k hk h => ?_, ?_, ?_, ?_⟩
  · have := hu i hi
    have := hv i hi
    exact qCheck_bad (u i) (v i) W hW (by omega) (by omega) (of_decide_eq_false h)
  · have := hu i hi
    have := hv i hi
    exact qCheck_ok (u i) (v i) W hW (by omega) (by omega) (of_decide_eq_true h)
  · have := hu i hi
    have := hv i hi
    refine ⟨cmpP (raw (u i) (v i)) (raw ⟨#[]⟩ ⟨#[]⟩), ?_, fun W hW => qCompare_any (u i) (v i) ⟨#[]⟩ ⟨#[]⟩ W hW (by omega) (by omega) (by decide) (by decide)⟩
    have h1 : vS (u i) = (raw (u i) (v i)).1 := by rw [hrw i h]; exact (congrArg vS (hceq i h).1).symm.trans (vS_cS _)
    rw [h1, show raw ⟨#[]⟩ ⟨#[]⟩ = ((0 : Int), (1 : Int)) by decide +kernel]
    unfold cmpP cmp3
    dsimp only
    rw [Int.mul_one, Int.zero_mul]
    constructor
    · intro hh
      split at hh
      · assumption
      · split at hh <;> omega
    · intro hh
      rw [if_pos hh]
      decide
  · have := hu k hk
    have := hv k hk
    have s1 := cS_size (hfs k (by omega)).1
    have s2 := cD_size (hfs k (by omega)).2
    have h1 := qAdd_any (fsN (nuN u v) (deN u v) X k) (fsD (nuN u v) (deN u v) X k) (u k) (v k) W hW (by unfold fsN; omega) (by unfold fsD; omega) (by omega) (by omega)
    rw [show raw (fsN (nuN u v) (deN u v) X k) (fsD (nuN u v) (deN u v) X k) = fsP (nuN u v) (deN u v) X k from raw_can (red_pos hX1), hval k h, ← hlred k h, red_over (hd0 k) hX0 (hdv k hk)] at h1
    unfold fsP at h1
    rw [add_red2 hX1] at h1
    exact h1
  · have := hu k hk
    have := hv k hk
    have h1 := qParts_any (u k) (v k) W hW (by omega) (by omega)
    rw [hnum k h, hden k] at h1
    exact h1
  · have h1 := rMul_any (cS (Num.prodD (deN u v) k : Nat)) (cS (deN u v k : Nat)) W (by have := hpc k (by omega); have := cS_size (z := (Num.prodD (deN u v) k : Nat)) (k := 73) (by omega); omega) (by have := hdc k hk; have := cS_size (z := (deN u v k : Nat)) (k := 12) (by omega); omega)
    rw [vS_cS, vS_cS, ← Int.natCast_mul] at h1
    exact h1
  · have h1 := qOf_any (a := ⟨#[49]⟩) (x := 1) W (by decide) vS_one
    rwa [cS_one] at h1
  · exact qOf_any (a := cS (X : Nat)) (x := (X : Nat)) W (by have := cS_size (z := (X : Nat)) (k := 73) (by omega); omega) (vS_cS _)
  · have := hu k hk
    have := hv k hk
    have hd1 : (0 : Int) < (deN u v k : Nat) := by have := hd0 k; omega
    have hmp : mulP (raw (u k) (v k)) ((X : Nat), 1) = red ((nuN u v k * X : Nat) : Int) (deN u v k : Nat) := by
      rw [hval k h]
      unfold mulP
      dsimp only
      rw [Int.mul_one, Int.natCast_mul]
    have hmc : CapP 85 (red ((nuN u v k * X : Nat) : Int) (deN u v k : Nat)) := CapP.of_red hd1 (by
      unfold Cap
      rw [Int.natAbs_natCast, show (85 : Nat) = 12 + 73 from rfl, Nat.pow_add]
      exact Nat.mul_lt_mul'' (hnc k hk) hXc) (Cap.mono (k := 12) (by have := hdc k hk; unfold Cap; omega) (by decide))
    have s1 := cS_size hmc.1
    have s2 := cD_size hmc.2
    refine ⟨cS (red ((nuN u v k * X : Nat) : Int) (deN u v k : Nat)).1, cD (red ((nuN u v k * X : Nat) : Int) (deN u v k : Nat)).2, fun W hW => ?_, fun W hW => ?_⟩
    · have h1 := qMul_any (u k) (v k) (cS (X : Nat)) ⟨#[]⟩ W hW (by omega) (by omega) (by have := cS_size (z := (X : Nat)) (k := 73) (by omega); omega) (by decide)
      rw [raw_int, hmp] at h1
      exact h1
    · have h1 := qFloor_any (cS (red ((nuN u v k * X : Nat) : Int) (deN u v k : Nat)).1) (cD (red ((nuN u v k * X : Nat) : Int) (deN u v k : Nat)).2) W hW (by omega) (by omega)
      rw [raw_can (red_pos hd1), floor_congr (y := (((nuN u v k * X : Nat) : Int), ((deN u v k : Nat) : Int))) (red_pos hd1) hd1 (same_red _ _)] at h1
      dsimp only at h1
      rw [nat_fdiv, Nat.mul_div_assoc _ (hdv k hk)] at h1
      exact h1
  · unfold fsN fsP
    simp only [Num.sumN]
    rw [show ((0 : Nat) : Int) = 0 from rfl, red_zero hX1]
    exact cS_zero
  · unfold fsD fsP
    simp only [Num.sumN]
    rw [show ((0 : Nat) : Int) = 0 from rfl, red_zero hX1]
    exact cD_one
  · rw [← red_whole hX0]
    unfold fsN fsD
    constructor
    · rintro ⟨h1, h2⟩
      refine can_inj (red_pos hX1) Int.one_pos ?_ ?_
      · exact h1.trans cS_one.symm
      · exact h2.trans cD_one.symm
    · intro h
      have h2 : fsP (nuN u v) (deN u v) X n = (1, 1) := h
      rw [h2]
      exact ⟨cS_one, cD_one⟩

end Go.Proofs.YthhihdihkddakaaGreatDoor

/- The reference of layer 4: Fractions: the walk. -/
namespace Go.Proofs.YthhihdihkddakaaGreatDoor
open Go.RowKit Fra

/-- one append, behind its equation -/
theorem op_addStr {w w' : World} {o : Oper} {a : Act} {K : Act → World → Prop} {Q : Exit → Act → World → Prop} {v v' y : Value} (sl x : Operand)
    (ho : o.op = .call { callee := .builtin .append, args := #[sl, x], argTypes := #[23, 23] }) (hs : a.eval sl = v) (hx : a.eval x = y)
    (hr : (Builtin.append_ #[23, 23] o.type #[v, y]).run Tryz.prog w = .ok v' w') (hK : K (a.put o.dst v') w') : Oper.wp Tryz.prog o a w K Q := by
  unfold Oper.wp execOp
  simp only [ho, resolve, invoke, builtin, Sem.run_bind, Sem.run_pure, Result.andThen_ok, List.map_toArray, List.map_cons, List.map_nil, hs, hx, hr]
  exact hK
set_option maxRecDepth 1000000 in
set_option maxHeartbeats 16000000 in
theorem rFrac_zero (w : World) (t : ByteArray) (xa : Option Addr) (cap : Nat) :
    Calls Tryz.prog 29 #[.string t, .slice xa 0 cap] w fun e w' => e = .returned (nilE 11) ∧ Below w.heap.size w w' := by
  unfold nilE
  go_enter Tryz.func29, Tryz.ntmps29
  go_wp2_with fail
  go_ret2
  exact ⟨rfl, Below.refl _ _⟩

set_option maxRecDepth 1000000 in
set_option maxHeartbeats 16000000 in
theorem rFrac_many (w : World) (t : ByteArray) (xa : Option Addr) (n cap : Nat) (h : 1000 < n) :
    Calls Tryz.prog 29 #[.string t, .slice xa n cap] w fun e w' => e = .returned (nilE 4) ∧ Below w.heap.size w w' := by
  have hi : (1000 : Int) < n := by omega
  have hb2 : ((n : Int) == 0) = false := by rw [beq_eq_false_iff_ne]; omega
  have hn0 : n ≠ 0 := by omega
  have hn1 : (n == 0) = false := by rw [beq_eq_false_iff_ne]; omega
  clear h
  unfold nilE
  go_enter Tryz.func29, Tryz.ntmps29
  go_wp2_with fail
  go_ret2
  exact ⟨rfl, Below.refl _ _⟩

set_option maxRecDepth 1000000 in
set_option maxHeartbeats 16000000 in
theorem rFrac_can (w : World) (t : ByteArray) (xa : Option Addr) (n cap : Nat) (h0 : 0 < n) (h1 : n ≤ 1000) (ht : t.size ≤ 1000) (hc : isCan t = false) :
    Calls Tryz.prog 29 #[.string t, .slice xa n cap] w fun e w' => e = .returned (nilE 1) ∧ Below w.heap.size w w' := by
  have hi : ¬ (1000 : Int) < n := by omega
  have hb2 : ((n : Int) == 0) = false := by rw [beq_eq_false_iff_ne]; omega
  have hn0 : n ≠ 0 := by omega
  have hn1 : (n == 0) = false := by rw [beq_eq_false_iff_ne]; omega
  have HC := Lib.hid (rCheck_any t w (by omega))
  rw [show chk t = 1 by unfold chk; rw [hc]; rfl] at HC
  clear h0 h1 ht hc
  unfold nilE
  go_enter Tryz.func29, Tryz.ntmps29
  go_wp2_with fail
  refine HC.out.mono ?_
  rintro _ _ ⟨rfl, rfl⟩
  go_wp2_with fail
  go_ret2
  exact ⟨rfl, Below.refl _ _⟩

set_option maxRecDepth 1000000 in
set_option maxHeartbeats 16000000 in
theorem rFrac_walk (w : World) (hG : Ground w) (t : ByteArray) (xa : Option Addr) (n cap : Nat) (u v : Nat → ByteArray) (hr : Rf w xa n u v) (hf : FitG n t u v) (h0 : 0 < n) (hk : n ≤ 1000) (hc : isCan t = true) (Ψ : Option Addr → Nat → Nat → Int → World → Prop)
    (h1 : ∀ k, k < n → wrongF (u k) (v k) = true → ∀ w', Ψ none 0 0 1 w')
    (h2 : (∀ k, k < n → wrongF (u k) (v k) = false) → Num.sumN (Num.numW (nuN u v) (deN u v) (Num.prodD (deN u v) n)) n ≠ Num.prodD (deN u v) n → ∀ w', Ψ none 0 0 9 w')
    (h3 : (∀ k, k < n → wrongF (u k) (v k) = false) → Num.sumN (Num.numW (nuN u v) (deN u v) (Num.prodD (deN u v) n)) n = Num.prodD (deN u v) n → ∀ W ya cy, Ground W → Rs W ya n (fun i => cS (Num.numW (nuN u v) (deN u v) (Num.prodD (deN u v) n) i : Nat)) → Calls Tryz.prog 15 #[.string t, .slice ya n cy] W fun e w' => ∃ ya m cy c, e = .returned (.tuple #[.slice ya m cy, .int .i64 c]) ∧ Ψ ya m cy c w' ∧ Below W.heap.size W w') :
    Calls Tryz.prog 29 #[.string t, .slice xa n cap] w fun e w' => ∃ ya m cy c, e = .returned (.tuple #[.slice ya m cy, .int .i64 c]) ∧ Ψ ya m cy c w' ∧ Below w.heap.size w w' := by
  have hi : ¬ (1000 : Int) < n := by omega
  have hb2 : ((n : Int) == 0) = false := by rw [beq_eq_false_iff_ne]; omega
  have hn0 : n ≠ 0 := by omega
  have hn1 : (n == 0) = false := by rw [beq_eq_false_iff_ne]; omega
  have HC := Lib.hid (rCheck_any t w (by have := hf.t1; omega))
  rw [show chk t = 0 by unfold chk; rw [hc]; rfl] at HC
  have HRD := Lib.hid (rf_data hf hk)
  have HR := Lib.hid hr
  have HG := Lib.hid hG
  have HP1 := Lib.hid h1
  have HP2 := Lib.hid h2
  have HP3 := Lib.hid h3
  have hn6 := HRD.out.few
  obtain ⟨nu, hnu⟩ : ∃ nu, nuN u v = nu := ⟨_, rfl⟩
  obtain ⟨de, hde⟩ : ∃ de, deN u v = de := ⟨_, rfl⟩
  obtain ⟨X, hX⟩ : ∃ X, Num.prodD (deN u v) n = X := ⟨_, rfl⟩
  rw [hnu, hX, hde] at HRD
  rw [hnu, hX, hde] at HP2 HP3
  rw [hde] at hX
  have HXX := Lib.hid hX
  have HBAD := Lib.hid HRD.out.bad
  have HGOOD := Lib.hid HRD.out.good
  have HCMP := Lib.hid HRD.out.cmp
  have HADD := Lib.hid HRD.out.add
  have HPAR := Lib.hid HRD.out.parts
  have HMUL := Lib.hid HRD.out.mul
  have HONE := Lib.hid HRD.out.one
  have HOF := Lib.hid HRD.out.of
  have HOV := Lib.hid HRD.out.over
  have HWH := Lib.hid HRD.out.whole
  have HN0 := Lib.hid HRD.out.n0
  have HD0 := Lib.hid HRD.out.d0
  clear h1 h2 h3 hf hc h0 hk hr hG hnu hde hX HRD
  go_enter Tryz.func29, Tryz.ntmps29
  go_wp2_with fail
  refine HC.out.mono ?_
  rintro _ _ ⟨rfl, rfl⟩
  clear HC
  go_upto_region 8 with fail
  obtain ⟨S0, hS0⟩ : ∃ b, w.heap.size = b := ⟨_, rfl⟩
  obtain ⟨W2, hW2⟩ : ∃ W2, W2 = w.alloc (.cells #[.string ⟨#[]⟩, .string ⟨#[]⟩] 36) := ⟨_, rfl⟩
  have hBX : PairAt W2 S0 36 (fsN nu de X 0) (fsD nu de X 0) := by rw [hW2, ← hS0, HN0.out, HD0.out]; exact PairAt.made _ _ _ _
  have HBX0 := Lib.hid hBX
  have HB0 := Lib.hid (show Below w.heap.size w W2 by rw [hW2]; exact (Below.refl _ _).alloc (Nat.le_refl _) _)
  have HS0 := Lib.hid hS0
  rw [← hW2, hS0]
  clear hW2 hS0 hBX
  go_wp2_with fail
  go_loopw [7, 8] (fun av iv wr => ∃ k : Nat, k ≤ n ∧ iv = .int .i64 (k : Int) ∧ av = .string (cS (Num.prodD de k : Nat)) ∧ Hid (∀ i, i < k → wrongF (u i) (v i) = false) ∧ Hid (PairAt wr S0 36 (fsN nu de X k) (fsD nu de X k)) ∧ Hid (Below w.heap.size w wr)) (fun _ iv _ => n - (intOf iv).toNat)
  case atStart => exact ⟨0, Nat.zero_le _, rfl, congrArg Value.string cS_one.symm, Lib.hid (fun i hi => absurd hi (by omega)), HBX0, HB0⟩
  case round =>
    clear HBX0 HB0 HN0 HD0
    obtain ⟨k, hk, rfl, rfl, HA, HBX, HB⟩ := hrel
    have hw1 : IntKind.i64.wrap ((k : Int) + 1) = (k : Int) + 1 := IntWalk.i64_in _ (by omega)
    by_cases hlt : k < n
    · obtain ⟨zb, zo, rfl, hzb, z1, z2⟩ := Rf.at HR.out hlt
      have m1 := (HB.out.cell (p := ⟨zb, zo + k * 2, none⟩) hzb).trans z1
      have m2 := (HB.out.cell (p := ⟨zb, zo + k * 2 + 1, none⟩) hzb).trans z2
      have HW1 := Lib.hid (HP1.out k hlt)
      have HK0 := Lib.hid (HBAD.out k hlt)
      have HK1 := Lib.hid (HGOOD.out k hlt)
      have HK2 := Lib.hid (HCMP.out k hlt)
      have HK3 := Lib.hid (HADD.out k hlt)
      have HK4 := Lib.hid (HPAR.out k hlt)
      have HK5 := Lib.hid (HMUL.out k hlt)
      have HA2 := Lib.hid (show wrongF (u k) (v k) = false → ∀ i, i < k + 1 → wrongF (u i) (v i) = false from fun hh i hi => by
        by_cases e : i = k
        · subst e; exact hh
        · exact HA.out i (by omega))
      obtain ⟨uk, huk⟩ : ∃ x, u k = x := ⟨_, rfl⟩
      obtain ⟨vk, hvk⟩ : ∃ x, v k = x := ⟨_, rfl⟩
      rw [huk, hvk] at HW1 HK0 HK1 HK2 HK3 HK4 HA2
      rw [huk] at z1 m1
      rw [hvk] at z2 m2
      clear huk hvk HA
      cases hcan : canF uk vk with
      | false =>
        have H0 := Lib.hid (HK0.out hcan)
        have HΨ := Lib.hid (HW1.out (by unfold wrongF; rw [hcan]; rfl))
        clear hcan HK0 HK1 HK2 HK3 HK4 HK5 HA2 HW1
        go_wp2_with fail
        refine Calls.mono (Ret.call H0.out _ (HG.out.below HB.out)) ?_
        rintro _ w3 ⟨rfl, hB1⟩
        have HB1 := Lib.hid (HB.out.trans (hB1.mono HB.out.size))
        clear hB1 m1 m2
        go_wp2_with fail
        go_ret2
        first
          | exact ⟨_, _, _, _, rfl, HΨ.out _, HB1.out⟩
          | exact ⟨none, 0, 0, 1, rfl, HΨ.out _, HB1.out⟩
      | true =>
        have H0 := Lib.hid (HK1.out hcan)
        obtain ⟨c, hcn, hcr⟩ := HK2.out hcan
        have H1 := Lib.hid hcr
        by_cases hng : c < 0
        · have HΨ := Lib.hid (HW1.out (by unfold wrongF; rw [hcan, decide_eq_true (hcn.1 hng)]; rfl))
          have hd : decide (c < 0) = true := decide_eq_true hng
          clear hcan hcn hcr HK0 HK1 HK2 HK3 HK4 HK5 HA2 HW1
          go_wp2_with fail
          refine Calls.mono (Ret.call H0.out _ (HG.out.below HB.out)) ?_
          rintro _ w3 ⟨rfl, hB1⟩
          have HB1 := Lib.hid (HB.out.trans (hB1.mono HB.out.size))
          clear hB1 m1 m2
          have m1 := (HB1.out.cell (p := ⟨zb, zo + k * 2, none⟩) hzb).trans z1
          have m2 := (HB1.out.cell (p := ⟨zb, zo + k * 2 + 1, none⟩) hzb).trans z2
          go_wp2_with fail
          refine Calls.mono (Ret.call H1.out _ (HG.out.below HB1.out)) ?_
          rintro _ w4 ⟨rfl, hB1⟩
          have HB2 := Lib.hid (HB1.out.trans (hB1.mono HB1.out.size))
          clear hB1 m1 m2
          go_wp2_with fail
          go_ret2
          first
            | exact ⟨_, _, _, _, rfl, HΨ.out _, HB2.out⟩
            | exact ⟨none, 0, 0, 1, rfl, HΨ.out _, HB2.out⟩
        · have hw : wrongF uk vk = false := by unfold wrongF; rw [hcan, decide_eq_false (fun e => hng (hcn.2 e))]; rfl
          have hd : decide (c < 0) = false := decide_eq_false hng
          have HA3 := Lib.hid (HA2.out hw)
          have HQ1 := Lib.hid (HK3.out hw)
          have HQ2 := Lib.hid (HK4.out hw)
          clear hcan hcn hcr hw HK0 HK1 HK2 HK3 HK4 HA2 HW1
          obtain ⟨p1, p2, p3, p4⟩ := HBX.out.cells
          obtain ⟨bn, hbn⟩ : ∃ x, fsN nu de X k = x := ⟨_, rfl⟩
          obtain ⟨bd, hbd⟩ : ∃ x, fsD nu de X k = x := ⟨_, rfl⟩
          obtain ⟨cn, hcn⟩ : ∃ x, fsN nu de X (k + 1) = x := ⟨_, rfl⟩
          obtain ⟨cd, hcd⟩ : ∃ x, fsD nu de X (k + 1) = x := ⟨_, rfl⟩
          obtain ⟨sn, hsn⟩ : ∃ x, cS (nu k : Nat) = x := ⟨_, rfl⟩
          obtain ⟨sd, hsd⟩ : ∃ x, cS (de k : Nat) = x := ⟨_, rfl⟩
          obtain ⟨a0, ha0⟩ : ∃ x, cS (Num.prodD de k : Nat) = x := ⟨_, rfl⟩
          obtain ⟨a1, ha1⟩ : ∃ x, cS (Num.prodD de (k + 1) : Nat) = x := ⟨_, rfl⟩
          rw [hbn] at p1
          rw [hbd] at p2
          rw [hbn, hbd] at HBX
          rw [hbn, hbd, hcn, hcd] at HQ1
          rw [hsn, hsd] at HQ2
          rw [hsd, ha0, ha1] at HK5
          rw [ha0]
          have HCN := Lib.hid hcn
          have HCD := Lib.hid hcd
          have HA1 := Lib.hid ha1
          have hS0w : w.heap.size ≤ S0 := by have := HS0.out; omega
          clear hbn hbd hcn hcd hsn hsd ha0 ha1
          go_wp2_with fail
          refine Calls.mono (Ret.call H0.out _ (HG.out.below HB.out)) ?_
          rintro _ w3 ⟨rfl, hB1⟩
          have HB1 := Lib.hid (HB.out.trans (hB1.mono HB.out.size))
          have HBX1 := Lib.hid (HBX.out.below hB1)
          clear hB1 m1 m2 HB HBX p1 p2 p3 p4
          have m1 := (HB1.out.cell (p := ⟨zb, zo + k * 2, none⟩) hzb).trans z1
          have m2 := (HB1.out.cell (p := ⟨zb, zo + k * 2 + 1, none⟩) hzb).trans z2
          go_wp2_with fail
          refine Calls.mono (Ret.call H1.out _ (HG.out.below HB1.out)) ?_
          rintro _ w4 ⟨rfl, hB1⟩
          have HB := Lib.hid (HB1.out.trans (hB1.mono HB1.out.size))
          have HBX := Lib.hid (HBX1.out.below hB1)
          clear hB1 m1 m2 HB1 HBX1 H1
          have H1 := HQ1
          clear HQ1
          have m1 := (HB.out.cell (p := ⟨zb, zo + k * 2, none⟩) hzb).trans z1
          have m2 := (HB.out.cell (p := ⟨zb, zo + k * 2 + 1, none⟩) hzb).trans z2
          obtain ⟨p1, p2, p3, p4⟩ := HBX.out.cells
          go_upto_region 13 with fail
          go_cut [] (fun wx => PairAt wx S0 36 cn cd ∧ Below w.heap.size w wx)
          case first =>
            go_region_with (first
              | (go_at_call 67;
                 (with_reducible refine Calls.mono (Ret.call H1.out _ (by first | exact HG.out.below HB.out | exact HG.out.below (below_drew HB.out) | exact HG.out.below (below_drewN HB.out _))) ?_);
                 (rintro _ WX ⟨rfl, hB1⟩);
                 (have HX2 := Lib.hid (show PairAt WX S0 36 bn bd from by first | exact HBX.out.below hB1 | exact PairAt.belowD HBX.out hB1));
                 (have HB2 := Lib.hid (show Below w.heap.size w WX from by first | exact HB.out.trans (hB1.mono HB.out.size) | exact (below_drew HB.out).trans (hB1.mono HB.out.size) | exact (below_drewN HB.out _).trans (hB1.mono HB.out.size)));
                 (obtain ⟨p1, p2, p3, p4⟩ := HX2.out.cells);
                 (clear hB1)))
            all_goals go_wp2_with fail
            all_goals go_meet
            all_goals have hfin : PairAt ((WX.setCell ⟨S0, 0, none⟩ (.string cn)).setCell ⟨S0, 1, none⟩ (.string cd)) S0 36 cn cd ∧ Below w.heap.size w ((WX.setCell ⟨S0, 0, none⟩ (.string cn)).setCell ⟨S0, 1, none⟩ (.string cd)) := ⟨HX2.out.put cn cd, below_put HB2.out hS0w _ _⟩
            all_goals first
              | exact hfin
              | exact ⟨hfin.1, below_drew hfin.2⟩
              | exact ⟨hfin.1, below_drewN hfin.2 _⟩
          obtain ⟨hX, hB⟩ := hcut
          have HX1 := Lib.hid hX
          have HB1 := Lib.hid hB
          clear hX hB HBX HB m1 m2 p1 p2 p3 p4
          have m1 := (HB1.out.cell (p := ⟨zb, zo + k * 2, none⟩) hzb).trans z1
          have m2 := (HB1.out.cell (p := ⟨zb, zo + k * 2 + 1, none⟩) hzb).trans z2
          go_wp2_with fail
          refine Calls.mono (Ret.call HQ2.out _ (HG.out.below HB1.out)) ?_
          rintro _ w4 ⟨rfl, hB⟩
          have HX2 := Lib.hid (HX1.out.below hB)
          have HB2 := Lib.hid (HB1.out.trans (hB.mono HB1.out.size))
          clear hB HX1 HB1 m1 m2
          go_wp2_with fail
          refine Calls.mono (Ret.call HK5.out _ (HG.out.below HB2.out)) ?_
          rintro _ w5 ⟨rfl, hB⟩
          have HX3 := Lib.hid (HX2.out.below hB)
          have HB3 := Lib.hid (HB2.out.trans (hB.mono HB2.out.size))
          clear hB HX2 HB2
          go_wp2_with fail
          go_roundw
          case rel => exact ⟨k + 1, by omega, by simp, by rw [HA1.out], HA3, by rw [HCN.out, HCD.out]; exact HX3, HB3⟩
          case measure => simp [intOf]; omega
    · obtain rfl : n = k := by omega
      rw [HXX.out]
      have HWA := Lib.hid (fun h => HP2.out HA.out h)
      have HWB := Lib.hid (fun h => HP3.out HA.out h)
      obtain ⟨fn, hfn⟩ : ∃ x, fsN nu de X n = x := ⟨_, rfl⟩
      obtain ⟨fd, hfd⟩ : ∃ x, fsD nu de X n = x := ⟨_, rfl⟩
      rw [hfn, hfd] at HWH HBX
      obtain ⟨sx, hsx⟩ : ∃ x, cS (X : Nat) = x := ⟨_, rfl⟩
      rw [hsx] at HOF HOV
      rw [hsx]
      obtain ⟨p1, p2, p3, p4⟩ := HBX.out.cells
      have hfg := fun X Y W => frac_guardn X Y fn fd ⟨#[49]⟩ ⟨#[]⟩ W
      clear hfn hfd hsx HP1 HP2 HP3 HBAD HGOOD HCMP HADD HPAR HMUL
      by_cases hwh : Num.sumN (Num.numW nu de X) n = X
      · have hq := HWH.out.2 hwh
        have hqq := frac_alike hq
        have HΨ := Lib.hid (HWB.out hwh)
        clear hq hwh HWA HWB HWH
        go_upto_region 16 with fail
        go_cut [63] (fun bv wx => bv = .bool false ∧ Below w.heap.size w wx)
        case first =>
          go_region_held3 (fun w' => w'.cell? ⟨S0, 0, none⟩ = some (.string fn) ∧ w'.cell? ⟨S0, 1, none⟩ = some (.string fd))
            (go_keep)
            ((go_at_call 54;
              (with_reducible refine Calls.mono (Ret.call HONE.out _ (by first | exact HG.out.below HB.out | exact HG.out.below (below_drew HB.out) | exact HG.out.below (below_drewN HB.out _))) ?_);
              (rintro _ WX ⟨rfl, hB1⟩);
              (have HX2 := Lib.hid (show PairAt WX S0 36 fn fd from by first | exact HBX.out.below hB1 | exact PairAt.belowD HBX.out hB1));
              (have HB2 := Lib.hid (show Below w.heap.size w WX from by first | exact HB.out.trans (hB1.mono HB.out.size) | exact (below_drew HB.out).trans (hB1.mono HB.out.size) | exact (below_drewN HB.out _).trans (hB1.mono HB.out.size)));
              (obtain ⟨p1, p2, p3, p4⟩ := HX2.out.cells);
              (clear hB1)))
          all_goals go_wp2_with fail
          all_goals go_meet
          all_goals first
            | exact ⟨rfl, HB2.out⟩
            | exact ⟨rfl, below_drew HB2.out⟩
            | exact ⟨rfl, below_drewN HB2.out _⟩
        obtain ⟨rfl, hB⟩ := hcut
        obtain ⟨w2, hw2⟩ : ∃ W, W = wc := ⟨_, rfl⟩
        rw [← hw2] at hB
        rw [← hw2]
        have HB1 := Lib.hid hB
        clear hw2 hB HB HBX p1 p2 p3 p4 hfg hqq hw1
        go_wp2_with fail
        go_loopw [11, 12] (fun ov iv wr => ∃ (i : Nat) (vv : Value), i ≤ n ∧ iv = .int .i64 (i : Int) ∧ vv = ov ∧ Hid (OwnS wr w.heap.size vv i (fun i => cS (Num.numW nu de X i : Nat))) ∧ Hid (Below w.heap.size w wr)) (fun _ iv _ => n - (intOf iv).toNat)
        case atStart => exact ⟨0, _, Nat.zero_le _, rfl, rfl, Lib.hid (OwnC.nil _ _ _ _ _), HB1⟩
        case round =>
          clear HB1
          obtain ⟨k, vv, hk, rfl, rfl, HO, HB⟩ := hrel
          by_cases hlt : k < n
          · obtain ⟨zb, zo, rfl, hzb, z1, z2⟩ := Rf.at HR.out hlt
            have m1 := (HB.out.cell (p := ⟨zb, zo + k * 2, none⟩) hzb).trans z1
            have m2 := (HB.out.cell (p := ⟨zb, zo + k * 2 + 1, none⟩) hzb).trans z2
            obtain ⟨mn, md, hov1, hov2⟩ := HOV.out k hlt (HA.out k hlt)
            have H1 := Lib.hid HOF.out
            have H2 := Lib.hid hov1
            have H3 := Lib.hid hov2
            obtain ⟨uk, huk⟩ : ∃ x, u k = x := ⟨_, rfl⟩
            obtain ⟨vk, hvk⟩ : ∃ x, v k = x := ⟨_, rfl⟩
            obtain ⟨rk, hrk⟩ : ∃ x, cS (Num.numW nu de X k : Nat) = x := ⟨_, rfl⟩
            rw [huk, hvk] at H2
            rw [huk] at z1 m1
            rw [hvk] at z2 m2
            rw [hrk] at H3
            have HRK := Lib.hid hrk
            have hw2 : IntKind.i64.wrap ((k : Int) + 1) = (k : Int) + 1 := IntWalk.i64_in _ (by omega)
            have hlt2 : (k : Int) < (n : Int) := by omega
            clear hov1 hov2 huk hvk hrk
            go_wp2_with fail
            refine wp_region_held_drew (S := fun w' => w'.cell? ⟨zb, zo + k * 2, none⟩ = some (.string uk) ∧ w'.cell? ⟨zb, zo + k * 2 + 1, none⟩ = some (.string vk)) (by kernel_rfl) (by (try dsimp only); go_keep) (fun hHeld => ?_)
            refine wpAnyH_take (i := 0) (oi := { dst := some 70, op := Op.move (Operand.tmp 11), type := 23, pos := "ref.go:153", after := #[], guard := none }) (v := ?_) rfl (by kernel_rfl) (by kernel_rfl) (by kernel_rfl) (fun _ _ _ h => h) (Or.inl ⟨by rfl, ?_⟩) (by assumption) ?_
            rotate_left
            focus ((intro w hSw; (try dsimp only at hSw); go_simp); (try with_reducible rfl))
            try simp only [Act.put, List.setIfInBounds_toArray, List.set_cons_zero, List.set_cons_succ]
            refine wpAnyH_take (i := 1) (oi := { dst := some 71, op := Op.move (Operand.tmp 1), type := 29, pos := "ref.go:153", after := #[], guard := none }) (v := ?_) rfl (by kernel_rfl) (by kernel_rfl) (by kernel_rfl) (fun _ _ _ h => h) (Or.inl ⟨by rfl, ?_⟩) (by assumption) ?_
            rotate_left
            focus ((intro w hSw; (try dsimp only at hSw); go_simp); (try with_reducible rfl))
            try simp only [Act.put, List.setIfInBounds_toArray, List.set_cons_zero, List.set_cons_succ]
            refine wpAnyH_take (i := 2) (oi := { dst := some 72, op := Op.move (Operand.tmp 12), type := 3, pos := "ref.go:153", after := #[], guard := none }) (v := ?_) rfl (by kernel_rfl) (by kernel_rfl) (by kernel_rfl) (fun _ _ _ h => h) (Or.inl ⟨by rfl, ?_⟩) (by assumption) ?_
            rotate_left
            focus ((intro w hSw; (try dsimp only at hSw); go_simp); (try with_reducible rfl))
            try simp only [Act.put, List.setIfInBounds_toArray, List.set_cons_zero, List.set_cons_succ]
            refine wpAnyH_take (i := 3) (oi := { dst := some 73, op := Op.indexAddr 29 (Operand.tmp 71) (Operand.tmp 72), type := 0, pos := "ref.go:153", after := #[{ on := 1, ground := Ground.data }, { on := 2, ground := Ground.data }], guard := none }) (v := ?_) rfl (by kernel_rfl) (by kernel_rfl) (by kernel_rfl) (fun _ _ _ h => h) (Or.inl ⟨by rfl, ?_⟩) (by assumption) ?_
            rotate_left
            focus ((intro w hSw; (try dsimp only at hSw); go_simp); (try with_reducible rfl))
            try simp only [Act.put, List.setIfInBounds_toArray, List.set_cons_zero, List.set_cons_succ]
            refine wpAnyH_take (i := 4) (oi := { dst := some 74, op := Op.load 36 (Operand.tmp 73), type := 36, pos := "ref.go:153", after := #[{ on := 3, ground := Ground.data }], guard := none }) (v := ?_) rfl (by kernel_rfl) (by kernel_rfl) (by kernel_rfl) (fun _ _ _ h => h) (Or.inl ⟨by rfl, ?_⟩) (by assumption) ?_
            rotate_left
            focus ((intro w hSw; (try dsimp only at hSw); go_simp); (try with_reducible rfl))
            try simp only [Act.put, List.setIfInBounds_toArray, List.set_cons_zero, List.set_cons_succ]
            refine wpAnyH_take (i := 5) (oi := { dst := some 75, op := Op.move (Operand.tmp 7), type := 22, pos := "ref.go:153", after := #[], guard := none }) (v := ?_) rfl (by kernel_rfl) (by kernel_rfl) (by kernel_rfl) (fun _ _ _ h => h) (Or.inl ⟨by rfl, ?_⟩) (by assumption) ?_
            rotate_left
            focus ((intro w hSw; (try dsimp only at hSw); go_simp); (try with_reducible rfl))
            try simp only [Act.put, List.setIfInBounds_toArray, List.set_cons_zero, List.set_cons_succ]
            refine wpAnyH_ready (rs := [6]) (by kernel_rfl) (by simp) ?_
            refine AllReadyH.cons (o := { dst := some 76, op := Op.call { callee := Callee.value (Operand.func 54), args := #[Operand.tmp 75], argTypes := #[22] }, type := 36, pos := "ref.go:153", after := #[{ on := 5, ground := Ground.data }], guard := none }) rfl (fun K hK => ?_) AllReadyH.nil
            clear hHeld
            go_simp
            refine Calls.mono (Ret.call H1.out _ (HG.out.below (below_drew HB.out))) ?_
            rintro _ WX6 ⟨rfl, hB1⟩
            have HB2 := Lib.hid (show Below w.heap.size w WX6 from (below_drew HB.out).trans (hB1.mono HB.out.size))
            have HO2 := Lib.hid (show OwnS WX6 w.heap.size vv k (fun i => cS (Num.numW nu de X i : Nat)) from OwnC.keptD HO.out hB1)
            have cX1 := (HB2.out.cell (p := ⟨zb, zo + k * 2, none⟩) hzb).trans z1
            have cX2 := (HB2.out.cell (p := ⟨zb, zo + k * 2 + 1, none⟩) hzb).trans z2
            clear HB HO hB1
            clear m1 m2
            have HB := HB2
            have HO := HO2
            clear HB2 HO2
            go_wp2_with fail
            refine hK.out _ _ (by (try dsimp only); go_keep) (fun hHeld => ?_)
            clear hK K
            try simp only [Act.put, List.setIfInBounds_toArray, List.set_cons_zero, List.set_cons_succ]
            refine wpAnyH_ready (rs := [7]) (by kernel_rfl) (by simp) ?_
            refine AllReadyH.cons (o := { dst := some 77, op := Op.call { callee := Callee.value (Operand.func 81), args := #[Operand.tmp 74, Operand.tmp 76], argTypes := #[36, 36] }, type := 36, pos := "ref.go:153", after := #[{ on := 4, ground := Ground.data }, { on := 6, ground := Ground.data }, { on := 6, ground := Ground.chain }], guard := none }) rfl (fun K hK => ?_) AllReadyH.nil
            clear hHeld
            go_simp
            refine Calls.mono (Ret.call H2.out _ (HG.out.below HB.out)) ?_
            rintro _ WX7 ⟨rfl, hB1⟩
            have HB2 := Lib.hid (show Below w.heap.size w WX7 from HB.out.trans (hB1.mono HB.out.size))
            have HO2 := Lib.hid (show OwnS WX7 w.heap.size vv k (fun i => cS (Num.numW nu de X i : Nat)) from HO.out.kept hB1)
            have cX1 := (HB2.out.cell (p := ⟨zb, zo + k * 2, none⟩) hzb).trans z1
            have cX2 := (HB2.out.cell (p := ⟨zb, zo + k * 2 + 1, none⟩) hzb).trans z2
            clear HB HO hB1
            have HB := HB2
            have HO := HO2
            clear HB2 HO2
            go_wp2_with fail
            refine hK.out _ _ (by (try dsimp only); go_keep) (fun hHeld => ?_)
            clear hK K
            try simp only [Act.put, List.setIfInBounds_toArray, List.set_cons_zero, List.set_cons_succ]
            refine wpAnyH_ready (rs := [8]) (by kernel_rfl) (by simp) ?_
            refine AllReadyH.cons (o := { dst := some 78, op := Op.call { callee := Callee.value (Operand.func 52), args := #[Operand.tmp 77], argTypes := #[36] }, type := 22, pos := "ref.go:153", after := #[{ on := 7, ground := Ground.data }, { on := 7, ground := Ground.chain }], guard := none }) rfl (fun K hK => ?_) AllReadyH.nil
            clear hHeld
            go_simp
            refine Calls.mono (Ret.call H3.out _ (HG.out.below HB.out)) ?_
            rintro _ WX8 ⟨rfl, hB1⟩
            have HB2 := Lib.hid (show Below w.heap.size w WX8 from HB.out.trans (hB1.mono HB.out.size))
            have HO2 := Lib.hid (show OwnS WX8 w.heap.size vv k (fun i => cS (Num.numW nu de X i : Nat)) from HO.out.kept hB1)
            have cX1 := (HB2.out.cell (p := ⟨zb, zo + k * 2, none⟩) hzb).trans z1
            have cX2 := (HB2.out.cell (p := ⟨zb, zo + k * 2 + 1, none⟩) hzb).trans z2
            clear HB HO hB1
            have HB := HB2
            have HO := HO2
            clear HB2 HO2
            go_wp2_with fail
            refine hK.out _ _ (by (try dsimp only); go_keep) (fun hHeld => ?_)
            clear hK K
            try simp only [Act.put, List.setIfInBounds_toArray, List.set_cons_zero, List.set_cons_succ]
            refine wpAnyH_ready (rs := [9]) (by kernel_rfl) (by simp) ?_
            refine AllReadyH.cons (o := { dst := some 79, op := Op.buildSlice 23 1 #[(0, Operand.tmp 78)], type := 23, pos := "ref.go:153", after := #[{ on := 8, ground := Ground.data }], guard := none }) rfl (fun K hK => ?_) AllReadyH.nil
            clear hHeld
            go_simp
            have HO3 := Lib.hid (HO.out.alloc (.cells #[.string rk] 22))
            have hle : w.heap.size ≤ (WX8.alloc (.cells #[.string rk] 22)).heap.size := by have := HB.out.size; rw [World.size_alloc]; omega
            have HB3 := Lib.hid (HB.out.alloc HB.out.size (.cells #[.string rk] 22))
            have HC1 := Lib.hid (show (WX8.alloc (.cells #[.string rk] 22)).cell? ⟨WX8.heap.size, 0, none⟩ = some (.string ((fun i => cS (Num.numW nu de X i : Nat)) k)) by dsimp only; rw [HRK.out]; exact cell_of_row _ _ _ _ _ _ (heap_alloc_new WX8 _))
            have cY1 : (WX8.alloc (.cells #[.string rk] 22)).cell? ⟨zb, zo + k * 2, none⟩ = some (.string uk) := (HB3.out.cell (p := ⟨zb, zo + k * 2, none⟩) hzb).trans z1
            have cY2 : (WX8.alloc (.cells #[.string rk] 22)).cell? ⟨zb, zo + k * 2 + 1, none⟩ = some (.string vk) := (HB3.out.cell (p := ⟨zb, zo + k * 2 + 1, none⟩) hzb).trans z2
            refine hK.out _ _ (by (try dsimp only); go_keep) (fun hHeld => ?_)
            clear hK K
            try simp only [Act.put, List.setIfInBounds_toArray, List.set_cons_zero, List.set_cons_succ]
            refine wpAnyH_ready (rs := [10]) (by kernel_rfl) (by simp) ?_
            refine AllReadyH.cons (o := { dst := some 80, op := Op.call { callee := Callee.builtin Builtin.append, args := #[Operand.tmp 70, Operand.tmp 79], argTypes := #[23, 23] }, type := 23, pos := "ref.go:153", after := #[{ on := 0, ground := Ground.data }, { on := 9, ground := Ground.data }, { on := 8, ground := Ground.chain }], guard := none }) rfl (fun K hK => ?_) AllReadyH.nil
            clear hHeld
            obtain ⟨v9, W9, hap, hO9, hB9⟩ := OwnS.add HO3.out WX8.heap.size HC1.out 23 (by omega) hle
            have HO := Lib.hid hO9
            have HB4 := Lib.hid (HB3.out.trans (hB9.mono (Nat.le_refl _)))
            have cZ1 := (HB4.out.cell (p := ⟨zb, zo + k * 2, none⟩) hzb).trans z1
            have cZ2 := (HB4.out.cell (p := ⟨zb, zo + k * 2 + 1, none⟩) hzb).trans z2
            clear hO9 hB9
            rw [if_pos (by rfl)]
            refine op_addStr (.tmp 70) (.tmp 79) rfl rfl rfl hap ?_
            refine hK.out _ _ (by (try dsimp only); go_keep) (fun hHeld => ?_)
            clear hK K
            try simp only [Act.put, List.setIfInBounds_toArray, List.set_cons_zero, List.set_cons_succ]
            refine wpAnyH_take (i := 11) (oi := { dst := some 11, op := Op.assign (Operand.tmp 80), type := 23, pos := "ref.go:153", after := #[{ on := 10, ground := Ground.data }, { on := 10, ground := Ground.chain }, { on := 0, ground := Ground.phase }, { on := 1, ground := Ground.phase }, { on := 2, ground := Ground.phase }, { on := 3, ground := Ground.phase }, { on := 4, ground := Ground.phase }, { on := 5, ground := Ground.phase }, { on := 6, ground := Ground.phase }, { on := 7, ground := Ground.phase }, { on := 8, ground := Ground.phase }, { on := 9, ground := Ground.phase }, { on := 10, ground := Ground.phase }], guard := none }) (v := ?_) rfl (by kernel_rfl) (by kernel_rfl) (by kernel_rfl) (fun _ _ _ h => h) (Or.inl ⟨by rfl, ?_⟩) (by assumption) ?_
            rotate_left
            focus ((intro w hSw; (try dsimp only at hSw); go_simp); (try with_reducible rfl))
            try simp only [Act.put, List.setIfInBounds_toArray, List.set_cons_zero, List.set_cons_succ]
            refine wpAnyH_done (by kernel_rfl) ?_ _
            clear hHeld
            go_wp2_with fail
            go_roundw
            case rel => exact ⟨k + 1, _, by omega, by simp, rfl, HO, HB4⟩
            case measure => simp [intOf]; omega
          · obtain rfl : k = n := by omega
            obtain ⟨ma, mc, rfl, hmr, _, _, _, _⟩ := HO.out.rc
            rw [Nat.mul_one] at hmr
            go_wp2_with fail
            refine (HΨ.out _ _ _ (HG.out.below HB.out) hmr).mono ?_
            rintro _ w2 ⟨ya, m, cy, c, rfl, hΨ, hB⟩
            have HΨ2 := Lib.hid hΨ
            have HB2 := Lib.hid (HB.out.trans (hB.mono HB.out.size))
            clear hΨ hB hmr HO HB
            go_wp2_with fail
            go_ret2
            first
              | exact ⟨_, _, _, _, rfl, HΨ2.out, HB2.out⟩
              | exact ⟨ya, m, cy, c, rfl, HΨ2.out, HB2.out⟩
      · have hqq := frac_differ (fun e => hwh (HWH.out.1 e))
        have HΨ := Lib.hid (HWA.out hwh)
        clear hwh HWA HWB HWH HOV HOF
        go_upto_region 16 with fail
        go_cut [63] (fun bv wx => bv = .bool true ∧ Below w.heap.size w wx)
        case first =>
          go_region_held3 (fun w' => w'.cell? ⟨S0, 0, none⟩ = some (.string fn) ∧ w'.cell? ⟨S0, 1, none⟩ = some (.string fd))
            (go_keep)
            ((go_at_call 54;
              (with_reducible refine Calls.mono (Ret.call HONE.out _ (by first | exact HG.out.below HB.out | exact HG.out.below (below_drew HB.out) | exact HG.out.below (below_drewN HB.out _))) ?_);
              (rintro _ WX ⟨rfl, hB1⟩);
              (have HX2 := Lib.hid (show PairAt WX S0 36 fn fd from by first | exact HBX.out.below hB1 | exact PairAt.belowD HBX.out hB1));
              (have HB2 := Lib.hid (show Below w.heap.size w WX from by first | exact HB.out.trans (hB1.mono HB.out.size) | exact (below_drew HB.out).trans (hB1.mono HB.out.size) | exact (below_drewN HB.out _).trans (hB1.mono HB.out.size)));
              (obtain ⟨p1, p2, p3, p4⟩ := HX2.out.cells);
              (clear hB1)))
          all_goals go_wp2_with fail
          all_goals go_meet
          all_goals first
            | exact ⟨rfl, HB2.out⟩
            | exact ⟨rfl, below_drew HB2.out⟩
            | exact ⟨rfl, below_drewN HB2.out _⟩
        obtain ⟨rfl, hB⟩ := hcut
        have HB1 := Lib.hid hB
        clear hB HB HBX p1 p2 p3 p4 hfg hqq HA
        go_wp2_with fail
        go_ret2
        first
          | exact ⟨_, _, _, _, rfl, HΨ.out _, HB1.out⟩
          | exact ⟨none, 0, 0, 9, rfl, HΨ.out _, HB1.out⟩

theorem wrongs_of {n : Nat} {u v : Nat → ByteArray} (h : ¬ (wrongs n u v = true)) : ∀ k, k < n → wrongF (u k) (v k) = false := fun k hk => by
  cases q : wrongF (u k) (v k) with
  | false => rfl
  | true => exact absurd (List.any_eq_true.2 ⟨k, List.mem_range.2 hk, q⟩) h
theorem rFrac_bad (w : World) (hG : Ground w) (t : ByteArray) (xa : Option Addr) (n cap : Nat) (u v : Nat → ByteArray) (hr : Rf w xa n u v) (hf : FitG n t u v) (h : fracE t n u v ≠ 0) :
    Calls Tryz.prog 29 #[.string t, .slice xa n cap] w fun e w' => e = .returned (nilE (fracE t n u v)) ∧ Below w.heap.size w w' := by
  unfold fracE at h ⊢
  by_cases h0 : n = 0
  · subst h0
    rw [if_pos rfl]
    exact rFrac_zero w t xa cap
  rw [if_neg h0] at h ⊢
  by_cases h1 : 1000 < n
  · rw [if_pos h1]
    exact rFrac_many w t xa n cap h1
  rw [if_neg h1] at h ⊢
  by_cases h2 : isCan t = false ∨ wrongs n u v = true
  · rw [if_pos h2]
    cases hc : isCan t with
    | false => exact rFrac_can w t xa n cap (by omega) (by omega) (by have := hf.t1; omega) hc
    | true =>
      have hw : wrongs n u v = true := by
        rcases h2 with h2 | h2
        · rw [hc] at h2; exact absurd h2 (by decide)
        · exact h2
      obtain ⟨i, hi, hwi⟩ := List.any_eq_true.1 hw
      have hi := List.mem_range.1 hi
      have hno : ¬ ∀ k, k < n → wrongF (u k) (v k) = false := fun hh => by rw [hh i hi] at hwi; exact absurd hwi (by decide)
      refine (rFrac_walk w hG t xa n cap u v hr hf (by omega) (by omega) hc (fun ya m cy c _ => ya = none ∧ m = 0 ∧ cy = 0 ∧ c = 1) (fun _ _ _ _ => ⟨rfl, rfl, rfl, rfl⟩) (fun hh => absurd hh hno) (fun hh => absurd hh hno)).mono ?_
      rintro e w' ⟨ya, m, cy, c, rfl, ⟨rfl, rfl, rfl, rfl⟩, hB⟩
      exact ⟨rfl, hB⟩
  · rw [if_neg h2] at h
    exact absurd rfl h
theorem fracE_parts {t : ByteArray} {n : Nat} {u v : Nat → ByteArray} (h : fracE t n u v = 0) : 0 < n ∧ n ≤ 1000 ∧ isCan t = true ∧ ∀ k, k < n → wrongF (u k) (v k) = false := by
  unfold fracE at h
  by_cases h1 : n = 0
  · rw [if_pos h1] at h; omega
  rw [if_neg h1] at h
  by_cases h2 : 1000 < n
  · rw [if_pos h2] at h; omega
  rw [if_neg h2] at h
  by_cases h3 : isCan t = false ∨ wrongs n u v = true
  · rw [if_pos h3] at h; omega
  refine ⟨by omega, by omega, ?_, wrongs_of fun e => h3 (Or.inr e)⟩
  cases ht : isCan t with
  | true => rfl
  | false => exact absurd (Or.inl ht) h3
theorem rFrac_sum (w : World) (hG : Ground w) (t : ByteArray) (xa : Option Addr) (n cap : Nat) (u v : Nat → ByteArray) (hr : Rf w xa n u v) (hf : FitG n t u v) (h : fracE t n u v = 0) (hs : Num.sumN (Num.numW (nuN u v) (deN u v) (Num.prodD (deN u v) n)) n ≠ Num.prodD (deN u v) n) :
    Calls Tryz.prog 29 #[.string t, .slice xa n cap] w fun e w' => e = .returned (nilE 9) ∧ Below w.heap.size w w' := by
  obtain ⟨a1, a2, a3, a4⟩ := fracE_parts h
  refine (rFrac_walk w hG t xa n cap u v hr hf a1 a2 a3 (fun ya m cy c _ => ya = none ∧ m = 0 ∧ cy = 0 ∧ c = 9) (fun k hk hh => ?_) (fun _ _ _ => ⟨rfl, rfl, rfl, rfl⟩) (fun _ hh => absurd hh hs)).mono ?_
  · rw [a4 k hk] at hh; exact absurd hh (by decide)
  · rintro e w' ⟨ya, m, cy, c, rfl, ⟨rfl, rfl, rfl, rfl⟩, hB⟩
    exact ⟨rfl, hB⟩
theorem rFrac_ok (w : World) (hG : Ground w) (t : ByteArray) (xa : Option Addr) (n cap : Nat) (u v : Nat → ByteArray) (hr : Rf w xa n u v) (hf : FitG n t u v) (h : fracE t n u v = 0) (hs : Num.sumN (Num.numW (nuN u v) (deN u v) (Num.prodD (deN u v) n)) n = Num.prodD (deN u v) n) :
    Calls Tryz.prog 29 #[.string t, .slice xa n cap] w fun e w' => ∃ P, e = .returned (.tuple #[.slice (some ⟨P, 0, none⟩) n n, .int .i64 0]) ∧ (RowC w' P 22 n fun i => .string (cS (Num.splitP (vS t) (Num.prodD (deN u v) n) (Num.numW (nuN u v) (deN u v) (Num.prodD (deN u v) n)) n i))) ∧ Below w.heap.size w w' := by
  obtain ⟨a1, a2, a3, a4⟩ := fracE_parts h
  have hrd := rf_data hf a2
  have hn6 := hrd.few
  have hx0 := hrd.x0
  have hxc := hrd.xc
  obtain ⟨X, hX⟩ : ∃ X, Num.prodD (deN u v) n = X := ⟨_, rfl⟩
  rw [hX] at hs hx0 hxc
  obtain ⟨f, hff⟩ : ∃ f, Num.numW (nuN u v) (deN u v) X = f := ⟨_, rfl⟩
  rw [hff] at hs
  have hfc : ∀ i, i < n → f i < 10 ^ 73 := fun i hi => by have := sumN_at (f := f) hi; omega
  have hsz : ∀ i, i < n → (cS (f i : Nat)).size ≤ 74 := fun i hi => cS_size (by have := hfc i hi; omega)
  have hq : FitQ n t (fun i => cS (f i : Nat)) := ⟨by omega, by omega, by have := hf.t1; omega, fun _ i hi => by have := hsz i hi; omega⟩
  have hwt : wtN (fun i => cS (f i : Nat)) = f := funext fun i => by unfold wtN; rw [vS_cS]; omega
  have hE : weighE t n (fun i => cS (f i : Nat)) = 0 := weighE_ok a1 a2 a3 (fun i _ => cS_can _) (fun i _ => by rw [vS_cS]; omega) (by rw [sumS_cS, hs]; omega)
  refine (rFrac_walk w hG t xa n cap u v hr hf a1 a2 a3 (fun ya m cy c w' => ∃ P, ya = some ⟨P, 0, none⟩ ∧ m = n ∧ cy = n ∧ c = 0 ∧ RowC w' P 22 n fun i => .string (cS (Num.splitP (vS t) X f n i))) (fun k hk hh => ?_) (fun _ hh => absurd (by rw [hX, hff]; exact hs) hh) (fun _ _ W ya cy hG hr => ?_)).mono ?_
  · rw [a4 k hk] at hh; exact absurd hh (by decide)
  · rw [hX, hff] at hr
    refine (rSplit_gen W hG t ya n cy _ hr hq hE (by exact hf.t1) (by rw [hwt, hs]; omega)).mono ?_
    rintro e w' ⟨P, rfl, hP, hB⟩
    rw [hwt, hs] at hP
    exact ⟨_, _, _, _, rfl, ⟨P, rfl, rfl, rfl, rfl, hP⟩, hB⟩
  · rintro e w' ⟨ya, m, cy, c, rfl, ⟨P, rfl, rfl, rfl, rfl, hP⟩, hB⟩
    rw [hX, hff]
    exact ⟨P, rfl, hP, hB⟩

end Go.Proofs.YthhihdihkddakaaGreatDoor
