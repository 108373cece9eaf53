/- The reference of layer 4: what Split finds on its way. -/
import Derived.Test.YthhihdihkddakaaGreatDoorMChecks
import Derived.Test.YthhihdihkddakaaGreatDoorQA
import Derived.Test.YthhihdihkddakaaGreatDoorQD
import Derived.Test.YthhihdihkddakaaGreatDoorAE
import Derived.Test.YthhihdihkddakaaGreatDoorShelf
import Derived.Laws.CopyOwn
import Derived.Laws.StructEq
namespace Go.Proofs.YthhihdihkddakaaGreatDoor
open Go.RowKit Fra

theorem less_red {z x W : Int} (h0 : 0 < W) : addP (red z W) (negP (x, 1)) = red (z - x * W) W := by
  rw [addP_congr (z := (z, W)) (w := (-x, 1)) (red_pos h0) (negP_pos (x := (x, 1)) Int.one_pos) h0 Int.one_pos (same_red _ _) (same_red _ _)]
  unfold addP
  simp only [Int.mul_one]
  rw [Int.neg_mul, Int.sub_eq_add_neg]
theorem raw_int (x : Int) : raw (cS x) ⟨#[]⟩ = (x, 1) := by
  have := raw_can (p := (x, 1)) Int.one_pos
  rwa [show cD (x, (1 : Int)).2 = ⟨#[]⟩ from cD_one] at this
theorem raw_red {z W : Int} (h0 : 0 < W) : raw (cS (red z W).1) (cD (red z W).2) = red z W := raw_can (red_pos h0)
theorem absP_int (T : Int) : absP (T, 1) = (((T.natAbs : Nat) : Int), 1) := by
  unfold absP
  by_cases h : T < 0
  · rw [if_pos h, show ((T.natAbs : Nat) : Int) = -T by omega]
    unfold negP
    exact red_lowest (by simp)
  · rw [if_neg h, show ((T.natAbs : Nat) : Int) = T by omega]

/-- the rests when k units have been given away -/
def rN (A W : Nat) (wt : Nat → Nat) (n k i : Nat) : ByteArray := cS (red (Num.restP (Num.remP A W wt) W n k i) (W : Nat)).1
def rD (A W : Nat) (wt : Nat → Nat) (n k i : Nat) : ByteArray := cD (red (Num.restP (Num.remP A W wt) W n k i) (W : Nat)).2
/-- the sizes of the ideal parts -/
def xN (A W : Nat) (wt : Nat → Nat) (i : Nat) : ByteArray := cS (red ((A : Int) * (wt i : Nat)) (W : Nat)).1
def xD (A W : Nat) (wt : Nat → Nat) (i : Nat) : ByteArray := cD (red ((A : Int) * (wt i : Nat)) (W : Nat)).2
theorem rest_next {A W n k i : Nat} {wt : Nat → Nat} (h : Num.rk (Num.remP A W wt) n i = k) : Num.restP (Num.remP A W wt) W n (k + 1) i = Num.restP (Num.remP A W wt) W n k i - (W : Int) := by
  unfold Num.restP
  rw [if_pos (by omega), if_neg (by omega)]
  omega
theorem rest_stay {A W n k i : Nat} {wt : Nat → Nat} (h : Num.rk (Num.remP A W wt) n i ≠ k) : Num.restP (Num.remP A W wt) W n (k + 1) i = Num.restP (Num.remP A W wt) W n k i := by
  unfold Num.restP
  by_cases g : Num.rk (Num.remP A W wt) n i < k
  · rw [if_pos g, if_pos (by omega)]
  · rw [if_neg g, if_neg (by omega)]
theorem given_up {A W n k i : Nat} {wt : Nat → Nat} (h : Num.rk (Num.remP A W wt) n i = k) : given A W wt n (k + 1) i = given A W wt n k i + 1 := by
  unfold given
  rw [if_pos (by omega), if_neg (by omega)]
theorem given_stay {A W n k i : Nat} {wt : Nat → Nat} (h : Num.rk (Num.remP A W wt) n i ≠ k) : given A W wt n (k + 1) i = given A W wt n k i := by
  unfold given
  by_cases g : Num.rk (Num.remP A W wt) n i < k
  · rw [if_pos g, if_pos (by omega)]
  · rw [if_neg g, if_neg (by omega)]
theorem rest_cap {A W n k i : Nat} {wt : Nat → Nat} (h0 : 0 < W) (hW : W < 10 ^ 60) : CapP 60 (red (Num.restP (Num.remP A W wt) W n k i) (W : Nat)) := by
  have h1 : Num.remP A W wt i < W := Nat.mod_lt _ h0
  refine CapP.of_red (by omega) ?_ (by unfold Cap; omega)
  unfold Cap Num.restP
  split <;> omega

/-- the calls on Split's way -/
structure RsData (t : ByteArray) (T : Int) (A W n : Nat) (wt : Nat → Nat) : Prop where
  n0 : 0 < n
  n19 : n ≤ 19
  tA : T.natAbs = A
  w0 : 0 < W
  sumW : Num.sumN wt n = W
  fabs : ∀ i, i < n → Ret 51 #[.agg #[.string (idN T W wt i), .string (idD T W wt i)]] (.agg #[.string (xN A W wt i), .string (xD A W wt i)])
  fflo : ∀ i, i < n → Ret 52 #[.agg #[.string (xN A W wt i), .string (xD A W wt i)]] (.string (cS (Num.quoP A W wt i : Nat)))
  fof : ∀ i, i < n → Ret 54 #[.string (cS (Num.quoP A W wt i : Nat))] (.agg #[.string (cS (Num.quoP A W wt i : Nat)), .string ⟨#[]⟩])
  fsub : ∀ i, i < n → Ret 53 #[.agg #[.string (xN A W wt i), .string (xD A W wt i)], .agg #[.string (cS (Num.quoP A W wt i : Nat)), .string ⟨#[]⟩]] (.agg #[.string (rN A W wt n 0 i), .string (rD A W wt n 0 i)])
  gof : Ret 54 #[.string t] (.agg #[.string t, .string ⟨#[]⟩])
  gabs : Ret 51 #[.agg #[.string t, .string ⟨#[]⟩]] (.agg #[.string (cS (A : Nat)), .string ⟨#[]⟩])
  gflo : Ret 52 #[.agg #[.string (cS (A : Nat)), .string ⟨#[]⟩]] (.string (cS (A : Nat)))
  gsum : ∀ W' xa cap, Rs W' xa n (fun i => cS (Num.quoP A W wt i : Nat)) → Calls Tryz.prog 57 #[.slice xa n cap] W' (StrPost W' (Num.sumN (Num.quoP A W wt) n : Nat))
  gsub : Ret 56 #[.string (cS (A : Nat)), .string (cS (Num.sumN (Num.quoP A W wt) n : Nat))] (.string (cS (Num.missP A W wt n : Nat)))
  gsmall : Ret 55 #[.string (cS (Num.missP A W wt n : Nat))] (.tuple #[.int .i64 (Num.missP A W wt n : Nat), .bool true])
  missn : Num.missP A W wt n ≤ n
  lcmp : ∀ k i j, i < n → j < n → ∃ c : Int, Ret 58 #[.agg #[.string (rN A W wt n k i), .string (rD A W wt n k i)], .agg #[.string (rN A W wt n k j), .string (rD A W wt n k j)]] (.int .i64 c) ∧ ((c = 1 ∧ Num.restP (Num.remP A W wt) W n k j < Num.restP (Num.remP A W wt) W n k i) ∨ (c = 0 ∧ Num.restP (Num.remP A W wt) W n k i ≤ Num.restP (Num.remP A W wt) W n k j) ∨ (c = -1 ∧ Num.restP (Num.remP A W wt) W n k i ≤ Num.restP (Num.remP A W wt) W n k j))
  ladd : ∀ k i, i < n → Num.rk (Num.remP A W wt) n i = k → Ret 59 #[.string (cS (given A W wt n k i : Nat)), .string ⟨#[49]⟩] (.string (cS (given A W wt n (k + 1) i : Nat)))
  lof : Ret 54 #[.string ⟨#[49]⟩] (.agg #[.string ⟨#[49]⟩, .string ⟨#[]⟩])
  lsub : ∀ k i, i < n → Num.rk (Num.remP A W wt) n i = k → Ret 53 #[.agg #[.string (rN A W wt n k i), .string (rD A W wt n k i)], .agg #[.string ⟨#[49]⟩, .string ⟨#[]⟩]] (.agg #[.string (rN A W wt n (k + 1) i), .string (rD A W wt n (k + 1) i)])
  tneg : ∀ W', Calls Tryz.prog 60 #[.string t] W' fun e w' => e = .returned (.bool (decide (T < 0))) ∧ W' = w'
  nneg : ∀ k i, i < n → ∀ W', Calls Tryz.prog 61 #[.string (cS (given A W wt n k i : Nat))] W' fun e w' => e = .returned (.string (cS (-(given A W wt n k i : Nat)))) ∧ W' = w'

theorem rs_data {t : ByteArray} {T : Int} {A W n : Nat} {wt : Nat → Nat} (htT : t = cS T) (ht1 : t.size ≤ 30) (hA : T.natAbs = A) (hn0 : 0 < n) (hn : n ≤ 19) (hW : Num.sumN wt n = W) (h0 : 0 < W) (hWc : W < 10 ^ 60) : RsData t T A W n wt := by
  have hW0 : (0 : Int) < (W : Nat) := by omega
  have hv : vS t = T := by rw [htT, vS_cS]
  have hTc : Cap 30 T := Cap.of ht1 hv
  have hAc : A < 10 ^ 30 := by unfold Cap at hTc; omega
  have hwc : ∀ i, i < n → wt i < 10 ^ 60 := fun i hi => by have := sumN_at (f := wt) hi; omega
  have hidc : ∀ i, i < n → CapP 90 (idl T W wt i) := fun i hi => CapP.of_red hW0 (Cap.mul (k := 30) (l := 60) hTc (by have := hwc i hi; unfold Cap; omega)) (Cap.mono (k := 60) (by unfold Cap; omega) (by decide))
  have hxc : ∀ i, i < n → CapP 90 (red ((A : Int) * (wt i : Nat)) (W : Nat)) := fun i hi => CapP.of_red hW0 (Cap.mul (k := 30) (l := 60) (show Cap 30 (A : Int) by unfold Cap; omega) (by have := hwc i hi; unfold Cap; omega)) (Cap.mono (k := 60) (by unfold Cap; omega) (by decide))
  have hq : ∀ i, i < n → Num.quoP A W wt i < 10 ^ 90 := fun i hi => by
    refine Nat.lt_of_le_of_lt (Nat.div_le_self _ _) ?_
    rw [show (90 : Nat) = 30 + 60 from rfl, Nat.pow_add]
    exact Nat.mul_lt_mul'' hAc (hwc i hi)
  have hqs : ∀ i, i < n → (cS (Num.quoP A W wt i : Nat)).size ≤ 91 := fun i hi => cS_size (by have := hq i hi; omega)
  have hgs : ∀ k i, i < n → (cS (given A W wt n k i : Nat)).size ≤ 92 := fun k i hi => cS_size (k := 91) (by have := hq i hi; unfold given; split <;> omega)
  have hAs : (cS (A : Nat)).size ≤ 31 := cS_size (by omega)
  have hle := Num.quo_le (T := A) hW h0
  have hsq : (cS (Num.sumN (Num.quoP A W wt) n : Nat)).size ≤ 31 := cS_size (by omega)
  have hmn : Num.missP A W wt n ≤ n := Num.miss_le_n hW h0
  refine ⟨hn0, hn, hA, h0, hW, fun i hi => ?_, fun i hi W' hG => ?_, fun i hi W' hG => ?_, fun i hi W' hG => ?_, fun W' hG => ?_, ?_, fun W' hG => ?_, fun W' xa cap hr => ?_, fun W' hG => ?_, fun W' hG => ?_, hmn, fun k i j hi hj => ?_, fun k i hi hk W' hG => ?_, fun W' hG => ?_, fun k i hi hk W' hG => ?_, fun W' => ?_, fun k i hi W' => ?_⟩
  · have h1 := rAbs (p := idl T W wt i) (red_pos hW0) (hidc i hi) (by decide)
    rw [show absP (idl T W wt i) = red ((A : Int) * (wt i : Nat)) (W : Nat) by unfold idl; rw [absP_red hW0, Int.natAbs_mul, Int.natAbs_natCast, hA, Int.natCast_mul]] at h1
    exact h1
  · have s1 := cS_size (hxc i hi).1
    have s2 := cD_size (hxc i hi).2
    have h1 := qFloor_any (xN A W wt i) (xD A W wt i) W' hG (by unfold xN; omega) (by unfold xD; omega)
    rw [show raw (xN A W wt i) (xD A W wt i) = red ((A : Int) * (wt i : Nat)) (W : Nat) from raw_red hW0, floor_congr (y := ((A : Int) * (wt i : Nat), (W : Nat))) (red_pos hW0) hW0 (same_red _ _), ← Int.natCast_mul, nat_fdiv] at h1
    exact h1
  · exact qOf_any W' (by have := hqs i hi; omega) (vS_cS _)
  · have s1 := cS_size (hxc i hi).1
    have s2 := cD_size (hxc i hi).2
    have h1 := qSub_any (xN A W wt i) (xD A W wt i) (cS (Num.quoP A W wt i : Nat)) ⟨#[]⟩ W' hG (by unfold xN; omega) (by unfold xD; omega) (by have := hqs i hi; omega) (by decide)
    rw [raw_int, show raw (xN A W wt i) (xD A W wt i) = red ((A : Int) * (wt i : Nat)) (W : Nat) from raw_red hW0, less_red hW0, show (A : Int) * (wt i : Nat) - (Num.quoP A W wt i : Nat) * (W : Nat) = Num.restP (Num.remP A W wt) W n 0 i by
      unfold Num.restP Num.quoP Num.remP
      rw [if_neg (by omega), ← Int.natCast_mul, ← Int.natCast_mul]
      have := Nat.div_add_mod (A * wt i) W
      rw [Nat.mul_comm] at this
      omega] at h1
    exact h1
  · have h1 := qOf_any (a := t) (x := T) W' (by omega) hv
    rwa [← htT] at h1
  · have h1 := rAbs (p := (T, 1)) (k := 30) Int.one_pos ⟨hTc, Cap.one (by decide)⟩ (by decide)
    rw [absP_int, hA] at h1
    dsimp only at h1
    rwa [cD_one, ← htT] at h1
  · have h1 := qFloor_any (cS (A : Nat)) ⟨#[]⟩ W' hG (by omega) (by decide)
    rw [raw_int] at h1
    dsimp only at h1
    rwa [show Int.fdiv (A : Int) 1 = (A : Int) from Int.fdiv_one _] at h1
  · have h1 := rSumR xa n cap (fun i => cS (Num.quoP A W wt i : Nat)) W' hr ⟨by omega, fun i hi => by have := hqs i hi; omega⟩
    rwa [sumS_cS] at h1
  · have h1 := rSub_any (cS (A : Nat)) (cS (Num.sumN (Num.quoP A W wt) n : Nat)) W' (by omega) (by omega)
    rw [vS_cS, vS_cS, show (A : Int) - (Num.sumN (Num.quoP A W wt) n : Nat) = (Num.missP A W wt n : Nat) by unfold Num.missP; omega] at h1
    exact h1
  · have h1 := rSmall_any (cS (Num.missP A W wt n : Nat)) W' (by have := cS_size (z := (Num.missP A W wt n : Nat)) (k := 30) (by omega); omega)
    unfold SmallPost at h1
    rw [vS_cS, if_pos (by unfold fits; simp; omega)] at h1
    exact h1.mono fun _ _ h => ⟨h.1, h.2 ▸ Below.refl _ _⟩
  · refine ⟨cmpP (red (Num.restP (Num.remP A W wt) W n k i) (W : Nat)) (red (Num.restP (Num.remP A W wt) W n k j) (W : Nat)), fun W' hG => ?_, ?_⟩
    · have c1 := rest_cap (A := A) (wt := wt) (n := n) (k := k) (i := i) h0 hWc
      have c2 := rest_cap (A := A) (wt := wt) (n := n) (k := k) (i := j) h0 hWc
      have s1 := cS_size c1.1
      have s2 := cD_size c1.2
      have s3 := cS_size c2.1
      have s4 := cD_size c2.2
      have h1 := qCompare_any (rN A W wt n k i) (rD A W wt n k i) (rN A W wt n k j) (rD A W wt n k j) W' hG (by unfold rN; omega) (by unfold rD; omega) (by unfold rN; omega) (by unfold rD; omega)
      unfold rN rD at h1 ⊢
      rwa [raw_red hW0, raw_red hW0] at h1
    · rw [cmpP_congr (z := (Num.restP (Num.remP A W wt) W n k i, (W : Nat))) (w := (Num.restP (Num.remP A W wt) W n k j, (W : Nat))) (red_pos hW0) (red_pos hW0) hW0 hW0 (same_red _ _) (same_red _ _)]
      unfold cmpP cmp3
      dsimp only
      obtain ⟨x, hx⟩ : ∃ x, Num.restP (Num.remP A W wt) W n k i = x := ⟨_, rfl⟩
      obtain ⟨y, hy⟩ : ∃ y, Num.restP (Num.remP A W wt) W n k j = y := ⟨_, rfl⟩
      rw [hx, hy]
      rcases Int.lt_or_le y x with e | e
      · have h1 := Int.mul_lt_mul_of_pos_right e hW0
        rw [if_neg (by omega), if_pos h1]
        exact Or.inl ⟨rfl, e⟩
      · have h1 := Int.mul_le_mul_of_nonneg_right e (Int.le_of_lt hW0)
        by_cases g : x * (W : Int) < y * (W : Int)
        · rw [if_pos g]
          exact Or.inr (Or.inr ⟨rfl, e⟩)
        · rw [if_neg g, if_neg (by omega)]
          exact Or.inr (Or.inl ⟨rfl, e⟩)
  · have h1 := rAdd_any (cS (given A W wt n k i : Nat)) ⟨#[49]⟩ W' (by have := hgs k i hi; omega) (by decide)
    rw [vS_cS, vS_one, show ((given A W wt n k i : Nat) : Int) + 1 = (given A W wt n (k + 1) i : Nat) by rw [given_up hk]; omega] at h1
    exact h1
  · have h1 := qOf_any (a := ⟨#[49]⟩) (x := 1) W' (by decide) vS_one
    rwa [cS_one] at h1
  · have c1 := rest_cap (A := A) (wt := wt) (n := n) (k := k) (i := i) h0 hWc
    have s1 := cS_size c1.1
    have s2 := cD_size c1.2
    have h1 := qSub_any (rN A W wt n k i) (rD A W wt n k i) ⟨#[49]⟩ ⟨#[]⟩ W' hG (by unfold rN; omega) (by unfold rD; omega) (by decide) (by decide)
    rw [show raw (rN A W wt n k i) (rD A W wt n k i) = red (Num.restP (Num.remP A W wt) W n k i) (W : Nat) from raw_red hW0, show raw ⟨#[49]⟩ ⟨#[]⟩ = ((1 : Int), (1 : Int)) by have := raw_int 1; rwa [cS_one] at this, less_red hW0, Int.one_mul, ← rest_next hk] at h1
    exact h1
  · exact rNegative (by omega) hv W'
  · have h1 := rNeg_any (cS (given A W wt n k i : Nat)) W' (by have := hgs k i hi; omega)
    rwa [vS_cS] at h1

end Go.Proofs.YthhihdihkddakaaGreatDoor

/- The reference of layer 4: Split: the walk. -/
namespace Go.Proofs.YthhihdihkddakaaGreatDoor
open Go.RowKit Fra

/-- the parts and the rests as they are being made -/
structure SplSt (w : World) (P R n : Nat) (p u v : Nat → ByteArray) (W : World) : Prop where
  pr : RowC W P 22 n fun i => .string (p i)
  rr : RowC W R 36 (n * 2) (pairC u v)
  below : Below w.heap.size w W
theorem SplSt.next {w : World} {P R n : Nat} {p u v : Nat → ByteArray} {W W' : World} (h : SplSt w P R n p u v W) (hb : Below W.heap.size W W') : SplSt w P R n p u v W' :=
  ⟨h.pr.below hb h.pr.lt, h.rr.below hb h.rr.lt, h.below.trans (hb.mono h.below.size)⟩
theorem SplSt.drewN {w : World} {P R n : Nat} {p u v : Nat → ByteArray} {W : World} (h : SplSt w P R n p u v W) (q : Nat) : SplSt w P R n p u v (W.drewN q) := ⟨h.pr, h.rr, below_drewN h.below q⟩
theorem SplSt.drew {w : World} {P R n : Nat} {p u v : Nat → ByteArray} {W : World} (h : SplSt w P R n p u v W) : SplSt w P R n p u v W.drew := h.drewN 1
theorem SplSt.congr {w : World} {P R n : Nat} {p u v p' u' v' : Nat → ByteArray} {W : World} (h : SplSt w P R n p u v W) (h1 : ∀ i, i < n → p' i = p i) (h2 : ∀ i, i < n → u' i = u i) (h3 : ∀ i, i < n → v' i = v i) : SplSt w P R n p' u' v' W :=
  ⟨h.pr.congr fun i hi => by rw [h1 i hi], h.rr.congr fun i hi => by
    have := h2 (i / 2) (by omega)
    have := h3 (i / 2) (by omega)
    unfold pairC
    split <;> simp [*], h.below⟩
theorem SplSt.setP {w : World} {P R n : Nat} {p u v : Nat → ByteArray} {W : World} (h : SplSt w P R n p u v W) (hP : w.heap.size ≤ P) (h1 : R ≠ P) (i : Nat) (x : ByteArray) : SplSt w P R n (upd p i x) u v (W.setCell ⟨P, i, none⟩ (.string x)) :=
  ⟨(h.pr.set i (.string x)).congr fun k _ => by unfold upd; split <;> rfl, h.rr.setOther (a := ⟨P, i, none⟩) h1 _, h.below.setCell (p := ⟨P, i, none⟩) hP _⟩
theorem SplSt.setR {w : World} {P R n : Nat} {p u v : Nat → ByteArray} {W : World} (h : SplSt w P R n p u v W) (hR : w.heap.size ≤ R) (h1 : P ≠ R) (i : Nat) (x y : ByteArray) : SplSt w P R n p (upd u i x) (upd v i y) ((W.setCell ⟨R, i * 2, none⟩ (.string x)).setCell ⟨R, i * 2 + 1, none⟩ (.string y)) :=
  ⟨(h.pr.setOther (a := ⟨R, i * 2, none⟩) h1 _).setOther (a := ⟨R, i * 2 + 1, none⟩) h1 _, ((h.rr.set (i * 2) (.string x)).set (i * 2 + 1) (.string y)).congr fun k hk => pairC_set u v i x y k hk,
    (h.below.setCell (p := ⟨R, i * 2, none⟩) hR _).setCell (p := ⟨R, i * 2 + 1, none⟩) hR _⟩
theorem SplSt.cells {w : World} {P R n : Nat} {p u v : Nat → ByteArray} {W : World} (h : SplSt w P R n p u v W) {i : Nat} (hi : i < n) : W.cell? ⟨R, i * 2, none⟩ = some (.string (u i)) ∧ W.cell? ⟨R, i * 2 + 1, none⟩ = some (.string (v i)) := by
  obtain ⟨b, o, e, _, h1, h2⟩ := (RowC.rf h.rr).at hi
  cases e
  rw [Nat.zero_add] at h1 h2
  exact ⟨h1, h2⟩

set_option maxRecDepth 1000000 in
set_option maxHeartbeats 16000000 in
theorem rSplit_bad (w : World) (t : ByteArray) (xa : Option Addr) (n cap : Nat) (s : Nat → ByteArray) (hr : Rs w xa n s) (hf : FitQ n t s) (h : weighE t n s ≠ 0) :
    Calls Tryz.prog 15 #[.string t, .slice xa n cap] w fun e w' => e = .returned (nilE (weighE t n s)) ∧ Below w.heap.size w w' := by
  have HW := Lib.hid (rIdeal_bad w t xa n cap s hr hf h)
  obtain ⟨c, hc⟩ : ∃ c, weighE t n s = c := ⟨_, rfl⟩
  rw [hc] at HW ⊢
  have hb : (c != 0) = true := by rw [bne_iff_ne, ← hc]; exact h
  clear hc h hr hf
  unfold nilE at HW ⊢
  go_enter Tryz.func15, Tryz.ntmps15
  go_wp2_with fail
  refine HW.out.mono ?_
  rintro _ w1 ⟨rfl, hB⟩
  go_wp2_with fail
  go_ret2
  exact ⟨rfl, hB⟩

set_option maxRecDepth 1000000 in
set_option maxHeartbeats 16000000 in
theorem rSplit_ok (w : World) (hG : Ground w) (t : ByteArray) (xa : Option Addr) (n cap : Nat) (s : Nat → ByteArray) (hr : Rs w xa n s) (hf : FitQ n t s) (h : weighE t n s = 0) (ht30 : t.size ≤ 30) (hs30 : ∀ i, i < n → (s i).size ≤ 30) :
    Calls Tryz.prog 15 #[.string t, .slice xa n cap] w fun e w' => ∃ P, e = .returned (.tuple #[.slice (some ⟨P, 0, none⟩) n n, .int .i64 0]) ∧ (RowC w' P 22 n fun i => .string (cS (Num.splitP (vS t) (Num.sumN (wtN s) n) (wtN s) n i))) ∧ Below w.heap.size w w' := by
  have hgd := weighE_zero h
  have hd := hgd.data hf.fitW
  obtain ⟨c, hc1, hdiv⟩ := hd.divc
  have hn0 := hgd.pos
  have hn := hdiv.few
  have hWs : Num.sumN (wtN s) n < 10 ^ 60 := by
    have h1 := sumS_cap (s := s) (c := 30) (by decide) (k := n) (fun i hi => Cap.of (hs30 i hi) rfl)
    rw [hd.sum] at h1
    have h2 := Cap.mono (l := 60) h1 (by omega)
    unfold Cap at h2
    omega
  have HW := Lib.hid (rIdeal_ok w hG t xa n cap s hr hf h)
  have HRD := Lib.hid (rs_data (t := t) (T := vS t) (A := (vS t).natAbs) (n := n) (W := Num.sumN (wtN s) n) (wt := wtN s) hd.total ht30 rfl hn0 hn rfl hdiv.w0 hWs)
  have HG := Lib.hid hG
  obtain ⟨T, hT⟩ : ∃ T, vS t = T := ⟨_, rfl⟩
  obtain ⟨W, hW⟩ : ∃ W, Num.sumN (wtN s) n = W := ⟨_, rfl⟩
  obtain ⟨wt, hwt⟩ : ∃ wt, wtN s = wt := ⟨_, rfl⟩
  rw [hT, hW, hwt] at HW HRD ⊢
  obtain ⟨A, hA⟩ : ∃ A, T.natAbs = A := ⟨_, rfl⟩
  rw [hA] at HRD
  have HAA := Lib.hid hA
  have hmk1 := run_makeStrs n (by omega)
  have hmk2 := run_makeFracs n (by omega)
  clear hgd hd hdiv hr hf h hG hT hW hwt hc1 hWs ht30 hs30 hA
  go_enter Tryz.func15, Tryz.ntmps15
  go_wp2_with fail
  refine HW.out.mono ?_
  rintro _ w1 ⟨za, cz, hcz, rfl, hz, hB0⟩
  have HZ := Lib.hid hz
  have HBW := Lib.hid hB0
  have HG1 := Lib.hid (HG.out.below hB0)
  clear hz hB0 hcz HW
  go_upto_region 5 with fail
  go_cut [9, 10] (fun s9 s10 wx => ∃ P R : Nat, s9 = .slice (some ⟨P, 0, none⟩) n n ∧ s10 = .slice (some ⟨R, 0, none⟩) n n ∧ P ≠ R ∧ w1.heap.size ≤ P ∧ w1.heap.size ≤ R ∧ SplSt w1 P R n (fun _ => ⟨#[]⟩) (fun _ => ⟨#[]⟩) (fun _ => ⟨#[]⟩) wx)
  case first =>
    go_region_held3 (fun _ => True)
      (trivial)
      (fail)
    all_goals go_wp2_with fail
    all_goals go_meet
    · refine ⟨_, _, rfl, rfl, by omega, by omega, by omega, (RowC.made w1 22 (.string ⟨#[]⟩) n).alloc _, ?_, ?_⟩
      · have := RowC.made2 (w1.alloc (.cells (madeCells #[.string ⟨#[]⟩] n) 22)) 36 n
        rw [World.size_alloc] at this
        exact this
      · exact below_drew (((Below.refl _ w1).alloc (Nat.le_refl _) _).alloc (by rw [World.size_alloc]; omega) _)
    · refine ⟨_, _, rfl, rfl, by omega, by omega, by omega, ?_, (RowC.made2 w1 36 n).alloc _, ?_⟩
      · have := RowC.made (w1.alloc (.cells (madeCells #[.string ⟨#[]⟩, .string ⟨#[]⟩] (n * 2)) 36)) 22 (.string ⟨#[]⟩) n
        rw [World.size_alloc] at this
        exact this
      · exact below_drew (((Below.refl _ w1).alloc (Nat.le_refl _) _).alloc (by rw [World.size_alloc]; omega) _)
  obtain ⟨P, R, rfl, rfl, hPR, hwP, hwR, hS⟩ := hcut
  obtain ⟨w2, hw2⟩ : ∃ W, W = wc := ⟨_, rfl⟩
  rw [← hw2] at hS
  rw [← hw2]
  clear hw2
  have hRP : R ≠ P := fun e => hPR e.symm
  obtain ⟨qN, hqN⟩ : ∃ qN : Nat → ByteArray, (fun i => cS (Num.quoP A W wt i : Nat)) = qN := ⟨_, rfl⟩
  have HQN := Lib.hid hqN
  have HS0 := Lib.hid (hS.congr (p' := upto qN 0) (u' := upto (rN A W wt n 0) 0) (v' := upto (rD A W wt n 0) 0) (fun i _ => if_neg (by omega)) (fun i _ => if_neg (by omega)) (fun i _ => if_neg (by omega)))
  clear hS hqN
  go_wp2_with fail
  go_loopw [11] (fun iv wr => ∃ k : Nat, k ≤ n ∧ iv = .int .i64 (k : Int) ∧ Hid (SplSt w1 P R n (upto qN k) (upto (rN A W wt n 0) k) (upto (rD A W wt n 0) k) wr)) (fun iv _ => n - (intOf iv).toNat)
  case atStart => exact ⟨0, Nat.zero_le _, rfl, HS0⟩
  case round =>
    clear HS0
    obtain ⟨k, hk, rfl, HS⟩ := hrel
    have hw1 : IntKind.i64.wrap ((k : Int) + 1) = (k : Int) + 1 := IntWalk.i64_in _ (by omega)
    by_cases hlt : k < n
    · obtain ⟨zb, zo, rfl, hzb, hz1, hz2⟩ := Rf.at (HZ.out.belowAt HS.out.below (Nat.le_refl _)) hlt
      have H1 := Lib.hid (HRD.out.fabs k hlt)
      have H2 := Lib.hid (HRD.out.fflo k hlt)
      have H3 := Lib.hid (HRD.out.fof k hlt)
      have H4 := Lib.hid (HRD.out.fsub k hlt)
      rw [show cS (Num.quoP A W wt k : Nat) = qN k by rw [← HQN.out]] at H2 H3 H4
      obtain ⟨un, hun⟩ : ∃ x, idN T W wt k = x := ⟨_, rfl⟩
      obtain ⟨ud, hud⟩ : ∃ x, idD T W wt k = x := ⟨_, rfl⟩
      obtain ⟨xn, hxn⟩ : ∃ x, xN A W wt k = x := ⟨_, rfl⟩
      obtain ⟨xd, hxd⟩ : ∃ x, xD A W wt k = x := ⟨_, rfl⟩
      obtain ⟨qk, hqk⟩ : ∃ x, qN k = x := ⟨_, rfl⟩
      obtain ⟨rn, hrn⟩ : ∃ x, rN A W wt n 0 k = x := ⟨_, rfl⟩
      obtain ⟨rd, hrd⟩ : ∃ x, rD A W wt n 0 k = x := ⟨_, rfl⟩
      rw [hun, hud, hxn, hxd] at H1
      rw [hxn, hxd, hqk] at H2
      rw [hqk] at H3
      rw [hxn, hxd, hqk, hrn, hrd] at H4
      rw [hun] at hz1
      rw [hud] at hz2
      have HQK := Lib.hid hqk
      have HRN := Lib.hid hrn
      have HRDD := Lib.hid hrd
      clear hun hud hxn hxd hqk hrn hrd hzb
      go_wp2_with fail
      refine Calls.mono (Ret.call H1.out _ (HG1.out.below HS.out.below)) ?_
      rintro _ w3 ⟨rfl, hB⟩
      have hS3 := HS.out.next hB
      clear hB HS hz1 hz2
      go_upto_region 10 with fail
      obtain ⟨X, hX⟩ : ∃ X, w3.heap.size = X := ⟨_, rfl⟩
      obtain ⟨W4, hW4⟩ : ∃ W4, W4 = w3.alloc (.cells #[.string xn, .string xd] 36) := ⟨_, rfl⟩
      have hBX : PairAt W4 X 36 xn xd := by rw [hW4, ← hX]; exact PairAt.made _ _ _ _
      have hXP : X ≠ P := by have := hS3.pr.lt; omega
      have hRX : R ≠ X := by have := hS3.rr.lt; omega
      have hPX : P ≠ X := fun e => hXP e.symm
      have hS4 : SplSt w1 P R n (upto qN k) (upto (rN A W wt n 0) k) (upto (rD A W wt n 0) k) W4 := by rw [hW4]; exact hS3.next ((Below.refl _ _).alloc (Nat.le_refl _) _)
      rw [← hW4, hX]
      clear hW4 hX hS3
      obtain ⟨k0, k1, _, _⟩ := hBX.cells
      have HBX := Lib.hid hBX
      have HS4 := Lib.hid hS4
      clear hBX hS4
      go_wp2_with fail
      refine Calls.mono (Ret.call H2.out _ (HG1.out.below HS4.out.below)) ?_
      rintro _ w5 ⟨rfl, hB⟩
      have HBX5 := Lib.hid (HBX.out.below hB)
      have HS5 := Lib.hid (HS4.out.next hB)
      have c1 := HS5.out.pr.cell hlt
      have f1 := HS5.out.pr.frozen k
      clear hB k0 k1 HBX HS4
      go_upto_region 11 with fail
      obtain ⟨W6, hW6⟩ : ∃ W6, W6 = w5.setCell ⟨P, k, none⟩ (.string qk) := ⟨_, rfl⟩
      have hS6 : SplSt w1 P R n (upd (upto qN k) k qk) (upto (rN A W wt n 0) k) (upto (rD A W wt n 0) k) W6 := by rw [hW6]; exact HS5.out.setP hwP hRP k qk
      have hBX6 : PairAt W6 X 36 xn xd := by rw [hW6]; exact HBX5.out.setOther hXP _
      rw [← hW6]
      clear hW6 c1 f1 HS5 HBX5
      obtain ⟨k0, k1, _, _⟩ := hBX6.cells
      have k2 := hS6.pr.cell hlt
      rw [upd_same (upto qN k) k qk] at k2
      have HS := Lib.hid hS6
      have HBX := Lib.hid hBX6
      have HB6 := Lib.hid (show Below W6.heap.size W6 W6 from Below.refl _ _)
      have hk2n : k * 2 + 1 < n * 2 := by omega
      clear hS6 hBX6
      go_region_held3 (fun w' => w'.cell? ⟨X, 0, none⟩ = some (.string xn) ∧ w'.cell? ⟨X, 1, none⟩ = some (.string xd) ∧ w'.cell? ⟨P, k, none⟩ = some (.string qk))
          (go_keep)
          (first
          | (go_at_call 54;
                       (with_reducible refine Calls.mono (Ret.call H3.out _ (by first | exact HG1.out.below HS.out.below | exact HG1.out.below HS.out.drew.below | exact HG1.out.below (HS.out.drewN _).below)) ?_);
                       (rintro _ WX ⟨rfl, hB1⟩);
                       (have HS2 : SplSt w1 P R n (upd (upto qN k) k qk) (upto (rN A W wt n 0) k) (upto (rD A W wt n 0) k) WX := (by first | exact HS.out.next hB1 | exact HS.out.drew.next hB1 | exact (HS.out.drewN _).next hB1));
                       (have HS3 := Lib.hid HS2);
                       (have HBX2 := Lib.hid (show PairAt WX X 36 xn xd from by first | exact HBX.out.below hB1 | exact (fun hq => PairAt.below hq hB1) HBX.out));
                       (obtain ⟨k0, k1, _, _⟩ := HBX2.out.cells);
                       (clear HBX);
                       (have HBX := HBX2);
                       (clear HBX2);
                       (have k2 := HS2.pr.cell hlt);
                       (rw [upd_same (upto qN k) k qk] at k2);
                       (clear HS HS2 hB1);
                       (have HS := HS3);
                       (clear HS3))
          | (go_at_call 53;
                       (with_reducible refine Calls.mono (Ret.call H4.out _ (by first | exact HG1.out.below HS.out.below | exact HG1.out.below HS.out.drew.below | exact HG1.out.below (HS.out.drewN _).below)) ?_);
                       (rintro _ WX ⟨rfl, hB1⟩);
                       (have HS2 : SplSt w1 P R n (upd (upto qN k) k qk) (upto (rN A W wt n 0) k) (upto (rD A W wt n 0) k) WX := (by first | exact HS.out.next hB1 | exact HS.out.drew.next hB1 | exact (HS.out.drewN _).next hB1));
                       (have HS3 := Lib.hid HS2);
                       (have HBX2 := Lib.hid (show PairAt WX X 36 xn xd from by first | exact HBX.out.below hB1 | exact (fun hq => PairAt.below hq hB1) HBX.out));
                       (obtain ⟨k0, k1, _, _⟩ := HBX2.out.cells);
                       (clear HBX);
                       (have HBX := HBX2);
                       (clear HBX2);
                       (have k2 := HS2.pr.cell hlt);
                       (rw [upd_same (upto qN k) k qk] at k2);
                       (have c1 := HS2.rr.cell (i := k * 2) (by omega));
                       (have f1 := HS2.rr.frozen (k * 2));
                       (have f2 := HS2.rr.frozen (k * 2 + 1));
                       (have hs1 := HS2.rr.set (k * 2) (.string rn));
                       (have c2 := hs1.cell (i := k * 2 + 1) (by omega));
                       (have f3 := hs1.frozen (k * 2 + 1));
                       (clear hs1);
                       (clear HS HS2 hB1);
                       (have HS := HS3);
                       (clear HS3)))
      all_goals go_wp2_with fail
      all_goals have hfin : ∀ WZ, SplSt w1 P R n (upd (upto qN k) k qk) (upto (rN A W wt n 0) k) (upto (rD A W wt n 0) k) WZ → SplSt w1 P R n (upto qN (k + 1)) (upto (rN A W wt n 0) (k + 1)) (upto (rD A W wt n 0) (k + 1)) ((WZ.setCell ⟨R, k * 2, none⟩ (.string rn)).setCell ⟨R, k * 2 + 1, none⟩ (.string rd)) := fun WZ hZ =>
          (hZ.setR hwR hPR k rn rd).congr (fun i _ => by rw [upto_next, HQK.out]) (fun i _ => by rw [upto_next, HRN.out]) (fun i _ => by rw [upto_next, HRDD.out])
      all_goals clear k0 k1 k2 c1 f1 f2 c2 f3
      all_goals go_roundw
      case rel =>
        refine ⟨k + 1, by omega, by simp, Lib.hid ?_⟩
        first
          | exact hfin _ HS.out
          | exact hfin _ HS.out.drew
          | exact hfin _ (HS.out.drewN _)
          | exact (hfin _ HS.out).drew
          | exact (hfin _ HS.out).drewN _
      case measure => simp [intOf]; omega
    · obtain rfl : k = n := by omega
      have HS1 := Lib.hid (HS.out.congr (p' := fun i => cS (given A W wt k 0 i : Nat)) (u' := rN A W wt k 0) (v' := rD A W wt k 0) (fun i hi => by
        rw [show upto qN k i = qN i from if_pos hi, ← HQN.out]
        unfold given
        rw [if_neg (by omega), Nat.add_zero]) (fun i hi => (if_pos hi).symm) (fun i hi => (if_pos hi).symm))
      have hgiv : ∀ i, i < k → cS (given A W wt k 0 i : Nat) = cS (Num.quoP A W wt i : Nat) := fun i _ => by unfold given; rw [if_neg (by omega), Nat.add_zero]
      have HGV := Lib.hid hgiv
      have HR1 := Lib.hid HRD.out.gof
      have HR2 := Lib.hid HRD.out.gabs
      have HR3 := Lib.hid HRD.out.gflo
      have HR4 := Lib.hid HRD.out.gsum
      have HR5 := Lib.hid HRD.out.gsub
      have HR6 := Lib.hid HRD.out.gsmall
      have hMn := HRD.out.missn
      unfold StrPost at HR4
      obtain ⟨M, hM⟩ : ∃ M, Num.missP A W wt k = M := ⟨_, rfl⟩
      have HMM := Lib.hid hM
      rw [hM] at HR5 HR6 hMn
      obtain ⟨sA, hsA⟩ : ∃ x, cS (A : Nat) = x := ⟨_, rfl⟩
      obtain ⟨sM, hsM⟩ : ∃ x, cS (M : Nat) = x := ⟨_, rfl⟩
      obtain ⟨sQ, hsQ⟩ : ∃ x, cS (Num.sumN (Num.quoP A W wt) k : Nat) = x := ⟨_, rfl⟩
      rw [hsA] at HR2 HR3 HR5
      rw [hsQ] at HR4 HR5
      rw [hsM] at HR5 HR6
      clear HS hgiv hM hsA hsM hsQ
      go_wp2_with fail
      refine Calls.mono (Ret.call HR1.out _ (HG1.out.below HS1.out.below)) ?_
      rintro _ _ ⟨rfl, hB⟩
      have HS2 := Lib.hid (HS1.out.next hB)
      clear HS1 hB
      have HS1 := HS2
      clear HS2
      go_wp2_with fail
      refine Calls.mono (Ret.call HR2.out _ (HG1.out.below HS1.out.below)) ?_
      rintro _ _ ⟨rfl, hB⟩
      have HS2 := Lib.hid (HS1.out.next hB)
      clear HS1 hB
      have HS1 := HS2
      clear HS2
      go_wp2_with fail
      refine Calls.mono (Ret.call HR3.out _ (HG1.out.below HS1.out.below)) ?_
      rintro _ _ ⟨rfl, hB⟩
      have HS2 := Lib.hid (HS1.out.next hB)
      clear HS1 hB
      have HS1 := HS2
      clear HS2
      go_wp2_with fail
      refine (HR4.out _ _ _ (Rs.congr HS1.out.pr.rc (fun i hi => (HGV.out i hi).symm))).mono ?_
      rintro _ _ ⟨rfl, hB⟩
      have HS2 := Lib.hid (HS1.out.next hB)
      clear HS1 hB
      have HS1 := HS2
      clear HS2
      go_wp2_with fail
      refine Calls.mono (Ret.call HR5.out _ (HG1.out.below HS1.out.below)) ?_
      rintro _ _ ⟨rfl, hB⟩
      have HS2 := Lib.hid (HS1.out.next hB)
      clear HS1 hB
      have HS1 := HS2
      clear HS2
      go_wp2_with fail
      refine Calls.mono (Ret.call HR6.out _ (HG1.out.below HS1.out.below)) ?_
      rintro _ _ ⟨rfl, hB⟩
      have HS2 := Lib.hid (HS1.out.next hB)
      clear HS1 hB
      have HS1 := HS2
      clear HS2
      clear HR1 HR2 HR3 HR4 HR5 HR6 HGV
      go_wp2_with fail
      go_loopw [13] (fun mv wr => ∃ q j : Nat, q + j = M ∧ mv = .int .i64 (q : Int) ∧ Hid (SplSt w1 P R k (fun i => cS (given A W wt k j i : Nat)) (rN A W wt k j) (rD A W wt k j) wr)) (fun mv _ => (intOf mv).toNat)
      case atStart => exact ⟨M, 0, by omega, rfl, HS1⟩
      case round =>
        clear HS1
        obtain ⟨q, j, hqj, rfl, HS⟩ := hrel
        by_cases hq : 0 < q
        · have hq1 : (0 : Int) < (q : Int) := by omega
          have hw2 : IntKind.i64.wrap ((q : Int) - 1) = (q : Int) - 1 := IntWalk.i64_in _ (by omega)
          have hjk : j < k := by omega
          clear hw1
          go_wp2_with fail
          go_loopw [15, 16] (fun bv iv wx => ∃ b i : Nat, bv = .int .i64 (b : Int) ∧ iv = .int .i64 (i : Int) ∧ 1 ≤ i ∧ i ≤ k ∧ b < i ∧ Hid (∀ l, l < i → Num.restP (Num.remP A W wt) W k j l ≤ Num.restP (Num.remP A W wt) W k j b ∧ (Num.restP (Num.remP A W wt) W k j l = Num.restP (Num.remP A W wt) W k j b → b ≤ l)) ∧ Hid (SplSt w1 P R k (fun i => cS (given A W wt k j i : Nat)) (rN A W wt k j) (rD A W wt k j) wx)) (fun _ iv _ => k - (intOf iv).toNat)
          case atStart => exact ⟨0, 1, rfl, rfl, by omega, by omega, by omega, Lib.hid (fun l hl => by (obtain rfl : l = 0 := (by omega)); exact ⟨Int.le_refl _, fun _ => Nat.le_refl _⟩), HS⟩
          case round =>
            clear HS
            obtain ⟨b, i, rfl, rfl, h1i, hik, hbi, HM, HS⟩ := hrel
            have hbk : b < k := by omega
            have hb0 : (b : Int) < (k : Int) := by omega
            have hw3 : IntKind.i64.wrap ((i : Int) + 1) = (i : Int) + 1 := IntWalk.i64_in _ (by omega)
            by_cases hlt : i < k
            · obtain ⟨a1, a2⟩ := HS.out.cells hlt
              obtain ⟨b1, b2⟩ := HS.out.cells hbk
              obtain ⟨c, hcr, hcc⟩ := HRD.out.lcmp j i b hlt hbk
              have HC := Lib.hid hcr
              have HN1 := Lib.hid (show Num.restP (Num.remP A W wt) W k j b < Num.restP (Num.remP A W wt) W k j i → ∀ l, l < i + 1 → Num.restP (Num.remP A W wt) W k j l ≤ Num.restP (Num.remP A W wt) W k j i ∧ (Num.restP (Num.remP A W wt) W k j l = Num.restP (Num.remP A W wt) W k j i → i ≤ l) from fun hh l hl => by
                by_cases e : l = i
                · subst e; exact ⟨Int.le_refl _, fun _ => Nat.le_refl _⟩
                · have := HM.out l (by omega)
                  exact ⟨by omega, fun _ => by omega⟩)
              have HN2 := Lib.hid (show Num.restP (Num.remP A W wt) W k j i ≤ Num.restP (Num.remP A W wt) W k j b → ∀ l, l < i + 1 → Num.restP (Num.remP A W wt) W k j l ≤ Num.restP (Num.remP A W wt) W k j b ∧ (Num.restP (Num.remP A W wt) W k j l = Num.restP (Num.remP A W wt) W k j b → b ≤ l) from fun hh l hl => by
                by_cases e : l = i
                · subst e; exact ⟨hh, fun _ => by omega⟩
                · exact HM.out l (by omega))
              obtain ⟨ai, hai⟩ : ∃ x, rN A W wt k j i = x := ⟨_, rfl⟩
              obtain ⟨di, hdi⟩ : ∃ x, rD A W wt k j i = x := ⟨_, rfl⟩
              obtain ⟨ab, hab⟩ : ∃ x, rN A W wt k j b = x := ⟨_, rfl⟩
              obtain ⟨db, hdb⟩ : ∃ x, rD A W wt k j b = x := ⟨_, rfl⟩
              rw [hai] at a1
              rw [hdi] at a2
              rw [hab] at b1
              rw [hdb] at b2
              rw [hai, hdi, hab, hdb] at HC
              have HAI := Lib.hid hai
              have HDI := Lib.hid hdi
              have HAB := Lib.hid hab
              have HDB := Lib.hid hdb
              clear hcr hai hdi hab hdb HM
              rcases hcc with ⟨rfl, hh⟩ | ⟨rfl, hh⟩ | ⟨rfl, hh⟩
              · have HN := Lib.hid (HN1.out hh)
                clear hh HN1 HN2
                go_wp2_with fail
                go_region_held3 (fun w' => w'.cell? ⟨R, i * 2, none⟩ = some (.string ai) ∧ w'.cell? ⟨R, i * 2 + 1, none⟩ = some (.string di) ∧ w'.cell? ⟨R, b * 2, none⟩ = some (.string ab) ∧ w'.cell? ⟨R, b * 2 + 1, none⟩ = some (.string db))
                  (go_keep)
                  (first
                    | (go_at_call 58;
                                 (with_reducible refine Calls.mono (Ret.call HC.out _ (by first | exact HG1.out.below HS.out.below | exact HG1.out.below HS.out.drew.below | exact HG1.out.below (HS.out.drewN _).below)) ?_);
                                 (rintro _ WX ⟨rfl, hB1⟩);
                                 (have HS2 : SplSt w1 P R k (fun i => cS (given A W wt k j i : Nat)) (rN A W wt k j) (rD A W wt k j) WX := (by first | exact HS.out.next hB1 | exact HS.out.drew.next hB1 | exact (HS.out.drewN _).next hB1));
                                 (have HS3 := Lib.hid HS2);
                                 (obtain ⟨a1, a2⟩ := HS2.cells hlt);
                                 (obtain ⟨b1, b2⟩ := HS2.cells hbk);
                                 (rw [HAI.out] at a1);
                                 (rw [HDI.out] at a2);
                                 (rw [HAB.out] at b1);
                                 (rw [HDB.out] at b2);
                                 (clear HS HS2 hB1);
                                 (have HS := HS3);
                                 (clear HS3)))
                all_goals go_wp2_with fail
                all_goals go_roundw
                case rel => exact ⟨i, i + 1, rfl, by simp, by omega, by omega, by omega, HN, by first | exact HS | exact Lib.hid HS.out.drew | exact Lib.hid (HS.out.drewN _)⟩
                case measure => simp [intOf]; omega
              · have HN := Lib.hid (HN2.out hh)
                clear hh HN1 HN2
                go_wp2_with fail
                go_region_held3 (fun w' => w'.cell? ⟨R, i * 2, none⟩ = some (.string ai) ∧ w'.cell? ⟨R, i * 2 + 1, none⟩ = some (.string di) ∧ w'.cell? ⟨R, b * 2, none⟩ = some (.string ab) ∧ w'.cell? ⟨R, b * 2 + 1, none⟩ = some (.string db))
                  (go_keep)
                  (first
                    | (go_at_call 58;
                                 (with_reducible refine Calls.mono (Ret.call HC.out _ (by first | exact HG1.out.below HS.out.below | exact HG1.out.below HS.out.drew.below | exact HG1.out.below (HS.out.drewN _).below)) ?_);
                                 (rintro _ WX ⟨rfl, hB1⟩);
                                 (have HS2 : SplSt w1 P R k (fun i => cS (given A W wt k j i : Nat)) (rN A W wt k j) (rD A W wt k j) WX := (by first | exact HS.out.next hB1 | exact HS.out.drew.next hB1 | exact (HS.out.drewN _).next hB1));
                                 (have HS3 := Lib.hid HS2);
                                 (obtain ⟨a1, a2⟩ := HS2.cells hlt);
                                 (obtain ⟨b1, b2⟩ := HS2.cells hbk);
                                 (rw [HAI.out] at a1);
                                 (rw [HDI.out] at a2);
                                 (rw [HAB.out] at b1);
                                 (rw [HDB.out] at b2);
                                 (clear HS HS2 hB1);
                                 (have HS := HS3);
                                 (clear HS3)))
                all_goals go_wp2_with fail
                all_goals go_roundw
                case rel => exact ⟨b, i + 1, rfl, by simp, by omega, by omega, by omega, HN, by first | exact HS | exact Lib.hid HS.out.drew | exact Lib.hid (HS.out.drewN _)⟩
                case measure => simp [intOf]; omega
              · have HN := Lib.hid (HN2.out hh)
                clear hh HN1 HN2
                go_wp2_with fail
                go_region_held3 (fun w' => w'.cell? ⟨R, i * 2, none⟩ = some (.string ai) ∧ w'.cell? ⟨R, i * 2 + 1, none⟩ = some (.string di) ∧ w'.cell? ⟨R, b * 2, none⟩ = some (.string ab) ∧ w'.cell? ⟨R, b * 2 + 1, none⟩ = some (.string db))
                  (go_keep)
                  (first
                    | (go_at_call 58;
                                 (with_reducible refine Calls.mono (Ret.call HC.out _ (by first | exact HG1.out.below HS.out.below | exact HG1.out.below HS.out.drew.below | exact HG1.out.below (HS.out.drewN _).below)) ?_);
                                 (rintro _ WX ⟨rfl, hB1⟩);
                                 (have HS2 : SplSt w1 P R k (fun i => cS (given A W wt k j i : Nat)) (rN A W wt k j) (rD A W wt k j) WX := (by first | exact HS.out.next hB1 | exact HS.out.drew.next hB1 | exact (HS.out.drewN _).next hB1));
                                 (have HS3 := Lib.hid HS2);
                                 (obtain ⟨a1, a2⟩ := HS2.cells hlt);
                                 (obtain ⟨b1, b2⟩ := HS2.cells hbk);
                                 (rw [HAI.out] at a1);
                                 (rw [HDI.out] at a2);
                                 (rw [HAB.out] at b1);
                                 (rw [HDB.out] at b2);
                                 (clear HS HS2 hB1);
                                 (have HS := HS3);
                                 (clear HS3)))
                all_goals go_wp2_with fail
                all_goals go_roundw
                case rel => exact ⟨b, i + 1, rfl, by simp, by omega, by omega, by omega, HN, by first | exact HS | exact Lib.hid HS.out.drew | exact Lib.hid (HS.out.drewN _)⟩
                case measure => simp [intOf]; omega
            · obtain rfl : i = k := by omega
              have hrk : Num.rk (Num.remP A W wt) i b = j := Num.best_is (W := W) hjk (fun l _ => Nat.mod_lt _ HRD.out.w0) hbk (fun l hl => (HM.out l hl).1) (fun l hl => (HM.out l hl).2)
              have HRK := Lib.hid hrk
              have HC1 := Lib.hid (HRD.out.ladd j b hbk hrk)
              have HC2 := Lib.hid HRD.out.lof
              have HC3 := Lib.hid (HRD.out.lsub j b hbk hrk)
              have c1 := HS.out.pr.cell hbk
              obtain ⟨g0, hg0⟩ : ∃ x, cS (given A W wt i j b : Nat) = x := ⟨_, rfl⟩
              obtain ⟨g1, hg1⟩ : ∃ x, cS (given A W wt i (j + 1) b : Nat) = x := ⟨_, rfl⟩
              obtain ⟨a0, ha0⟩ : ∃ x, rN A W wt i j b = x := ⟨_, rfl⟩
              obtain ⟨d0, hd0⟩ : ∃ x, rD A W wt i j b = x := ⟨_, rfl⟩
              obtain ⟨a9, ha9⟩ : ∃ x, rN A W wt i (j + 1) b = x := ⟨_, rfl⟩
              obtain ⟨d9, hd9⟩ : ∃ x, rD A W wt i (j + 1) b = x := ⟨_, rfl⟩
              rw [hg0, hg1] at HC1
              rw [ha0, hd0, ha9, hd9] at HC3
              rw [hg0] at c1
              have HG9 := Lib.hid hg1
              have HA0 := Lib.hid ha0
              have HD0 := Lib.hid hd0
              have HA9 := Lib.hid ha9
              have HD9 := Lib.hid hd9
              clear hrk hg0 hg1 ha0 hd0 ha9 hd9 HM
              go_wp2_with fail
              refine Calls.mono (Ret.call HC1.out _ (HG1.out.below HS.out.below)) ?_
              rintro _ w3 ⟨rfl, hB⟩
              have HS3 := Lib.hid (HS.out.next hB)
              clear hB HS c1
              have c1 := HS3.out.pr.cell hbk
              have f1 := HS3.out.pr.frozen b
              go_upto_region 22 with fail
              obtain ⟨W6, hW6⟩ : ∃ W6, W6 = w3.setCell ⟨P, b, none⟩ (.string g1) := ⟨_, rfl⟩
              have hS6 : SplSt w1 P R i (upd (fun l => cS (given A W wt i j l : Nat)) b g1) (rN A W wt i j) (rD A W wt i j) W6 := by rw [hW6]; exact HS3.out.setP hwP hRP b g1
              rw [← hW6]
              clear hW6 c1 f1 HS3
              obtain ⟨m1, m2⟩ := hS6.cells hbk
              rw [HA0.out] at m1
              rw [HD0.out] at m2
              have HS := Lib.hid hS6
              clear hS6
              have hb2n : b * 2 + 1 < i * 2 := by omega
              go_region_with (first
                | (go_at_call 54;
                             (with_reducible refine Calls.mono (Ret.call HC2.out _ (by first | exact HG1.out.below HS.out.below | exact HG1.out.below HS.out.drew.below | exact HG1.out.below (HS.out.drewN _).below)) ?_);
                             (rintro _ WX ⟨rfl, hB1⟩);
                             (have HS2 : SplSt w1 P R i (upd (fun l => cS (given A W wt i j l : Nat)) b g1) (rN A W wt i j) (rD A W wt i j) WX := (by first | exact HS.out.next hB1 | exact HS.out.drew.next hB1 | exact (HS.out.drewN _).next hB1));
                             (have HS3 := Lib.hid HS2);
                             (obtain ⟨m1, m2⟩ := HS2.cells hbk);
                             (rw [HA0.out] at m1);
                             (rw [HD0.out] at m2);
                             (clear HS HS2 hB1);
                             (have HS := HS3);
                             (clear HS3))
                | (go_at_call 53;
                             (with_reducible refine Calls.mono (Ret.call HC3.out _ (by first | exact HG1.out.below HS.out.below | exact HG1.out.below HS.out.drew.below | exact HG1.out.below (HS.out.drewN _).below)) ?_);
                             (rintro _ WX ⟨rfl, hB1⟩);
                             (have HS2 : SplSt w1 P R i (upd (fun l => cS (given A W wt i j l : Nat)) b g1) (rN A W wt i j) (rD A W wt i j) WX := (by first | exact HS.out.next hB1 | exact HS.out.drew.next hB1 | exact (HS.out.drewN _).next hB1));
                             (have HS3 := Lib.hid HS2);
                             (have c1 := HS2.rr.cell (i := b * 2) (by omega));
                             (have f1 := HS2.rr.frozen (b * 2));
                             (have f2 := HS2.rr.frozen (b * 2 + 1));
                             (have hs1 := HS2.rr.set (b * 2) (.string a9));
                             (have c2 := hs1.cell (i := b * 2 + 1) (by omega));
                             (have f3 := hs1.frozen (b * 2 + 1));
                             (clear hs1);
                             (clear HS HS2 hB1);
                             (have HS := HS3);
                             (clear HS3)))
              all_goals go_wp2_with fail
              all_goals have hfin : ∀ WZ, SplSt w1 P R i (upd (fun l => cS (given A W wt i j l : Nat)) b g1) (rN A W wt i j) (rD A W wt i j) WZ → SplSt w1 P R i (fun l => cS (given A W wt i (j + 1) l : Nat)) (rN A W wt i (j + 1)) (rD A W wt i (j + 1)) ((WZ.setCell ⟨R, b * 2, none⟩ (.string a9)).setCell ⟨R, b * 2 + 1, none⟩ (.string d9)) := fun WZ hZ =>
                  (hZ.setR hwR hPR b a9 d9).congr (fun l hl => by
                    unfold upd
                    by_cases e : l = b
                    · rw [if_pos e, e, HG9.out]
                    · rw [if_neg e, given_stay (fun g => e (Num.rk_inj hl hbk (by rw [g, HRK.out])))]) (fun l hl => by
                    unfold upd
                    by_cases e : l = b
                    · rw [if_pos e, e, HA9.out]
                    · rw [if_neg e]; unfold rN; rw [rest_stay (fun g => e (Num.rk_inj hl hbk (by rw [g, HRK.out])))]) (fun l hl => by
                    unfold upd
                    by_cases e : l = b
                    · rw [if_pos e, e, HD9.out]
                    · rw [if_neg e]; unfold rD; rw [rest_stay (fun g => e (Num.rk_inj hl hbk (by rw [g, HRK.out])))])
              all_goals clear m1 m2 c1 f1 f2 c2 f3
              all_goals go_roundw
              all_goals first
                | (refine ⟨q - 1, j + 1, by omega, by rw [show ((q - 1 : Nat) : Int) = (q : Int) - 1 by omega], Lib.hid ?_⟩;
                   first
                     | exact hfin _ HS.out
                     | exact hfin _ HS.out.drew
                     | exact hfin _ (HS.out.drewN _)
                     | exact (hfin _ HS.out).drew
                     | exact (hfin _ HS.out).drewN _)
                | (simp [intOf]; omega)
        · obtain rfl : q = 0 := by omega
          have hjM : M = j := by omega
          have HJM := Lib.hid hjM
          have HT := Lib.hid HRD.out.tneg
          have htA := HRD.out.tA
          have HTA := Lib.hid htA
          clear hqj hjM htA hw1 hMn
          by_cases hneg : T < 0
          · rw [decide_eq_true hneg] at HT
            have HS6 := Lib.hid (HS.out.congr (p' := fun l => cS (if l < 0 then -((given A W wt k j l : Nat) : Int) else ((given A W wt k j l : Nat) : Int))) (u' := rN A W wt k j) (v' := rD A W wt k j) (fun i _ => by rw [if_neg (by omega)]) (fun _ _ => rfl) (fun _ _ => rfl))
            have HNEG := Lib.hid hneg
            clear hneg HS
            go_wp2_with fail
            refine (HT.out _).mono ?_
            rintro _ _ ⟨rfl, rfl⟩
            go_wp2_with fail
            go_loopw [17] (fun iv wx => ∃ l : Nat, l ≤ k ∧ iv = .int .i64 (l : Int) ∧ Hid (SplSt w1 P R k (fun i => cS (if i < l then -((given A W wt k j i : Nat) : Int) else ((given A W wt k j i : Nat) : Int))) (rN A W wt k j) (rD A W wt k j) wx)) (fun iv _ => k - (intOf iv).toNat)
            case atStart => exact ⟨0, Nat.zero_le _, rfl, HS6⟩
            case round =>
              clear HS6
              obtain ⟨l, hl, rfl, HS⟩ := hrel
              have hw4 : IntKind.i64.wrap ((l : Int) + 1) = (l : Int) + 1 := IntWalk.i64_in _ (by omega)
              by_cases hlk : l < k
              · have c1 := HS.out.pr.cell hlk
                have f1 := HS.out.pr.frozen l
                rw [if_neg (by omega)] at c1
                have HNE := Lib.hid (HRD.out.nneg j l hlk)
                obtain ⟨s1, hs1⟩ : ∃ s, cS ((given A W wt k j l : Nat) : Int) = s := ⟨_, rfl⟩
                obtain ⟨s2, hs2⟩ : ∃ s, cS (-((given A W wt k j l : Nat) : Int)) = s := ⟨_, rfl⟩
                have HS2 := Lib.hid hs2
                simp only [hs1, hs2] at c1 HNE
                clear hs1 hs2
                have HS6 := Lib.hid ((HS.out.setP hwP hRP l s2).congr (p' := fun i => cS (if i < l + 1 then -((given A W wt k j i : Nat) : Int) else ((given A W wt k j i : Nat) : Int))) (u' := rN A W wt k j) (v' := rD A W wt k j) (fun i hi => by
                  unfold upd
                  by_cases e : i = l
                  · rw [if_pos e, e, if_pos (by omega), ← HS2.out]
                  · rw [if_neg e]
                    dsimp only
                    by_cases g : i < l
                    · rw [if_pos g, if_pos (by omega)]
                    · rw [if_neg g, if_neg (by omega)]) (fun _ _ => rfl) (fun _ _ => rfl))
                clear HS
                go_wp2_with fail
                refine (HNE.out _).mono ?_
                rintro _ _ ⟨rfl, rfl⟩
                go_wp2_with fail
                go_roundw
                case rel => exact ⟨l + 1, by omega, by simp, HS6⟩
                case measure => simp [intOf]; omega
              · obtain rfl : l = k := by omega
                have HF := Lib.hid (HS.out.pr.congr (d := fun i => .string (cS (Num.splitP T W wt l i))) (fun i hi => by
                  unfold Num.splitP
                  rw [if_pos HNEG.out, if_pos hi, HTA.out]
                  unfold Num.partP
                  rw [HMM.out, HJM.out]
                  rfl))
                have HB := Lib.hid (HBW.out.trans (HS.out.below.mono HBW.out.size))
                clear HS
                go_wp2_with fail
                go_ret2
                exact ⟨P, rfl, HF.out, HB.out⟩
          · rw [decide_eq_false hneg] at HT
            have HF := Lib.hid (HS.out.pr.congr (d := fun i => .string (cS (Num.splitP T W wt k i))) (fun i hi => by
              unfold Num.splitP
              rw [if_neg hneg, HTA.out]
              unfold Num.partP
              rw [HMM.out, HJM.out]
              rfl))
            have HB := Lib.hid (HBW.out.trans (HS.out.below.mono HBW.out.size))
            clear hneg HS
            go_wp2_with fail
            refine (HT.out _).mono ?_
            rintro _ _ ⟨rfl, rfl⟩
            go_wp2_with fail
            go_ret2
            exact ⟨P, rfl, HF.out, HB.out⟩

end Go.Proofs.YthhihdihkddakaaGreatDoor

/- The reference of layer 4: Running: the walk. -/
namespace Go.Proofs.YthhihdihkddakaaGreatDoor
open Go.RowKit Fra

theorem add_red2 {a b W : Int} (h0 : 0 < W) : addP (red a W) (red b W) = red (a + b) W := by
  rw [add_red h0]
  refine red_eq (Int.mul_pos h0 h0) h0 ?_
  rw [Int.add_mul, Int.add_mul, Int.mul_assoc a, Int.mul_assoc b]
/-- the sum of the first k ideal parts -/
def begP (T : Int) (W : Nat) (wt : Nat → Nat) (k : Nat) : Int × Int := red (T * (Num.sumN wt k : Nat)) (W : Nat)
def begN (T : Int) (W : Nat) (wt : Nat → Nat) (k : Nat) : ByteArray := cS (begP T W wt k).1
def begD (T : Int) (W : Nat) (wt : Nat → Nat) (k : Nat) : ByteArray := cD (begP T W wt k).2
theorem beg_next {T : Int} {W : Nat} {wt : Nat → Nat} (h0 : 0 < W) (k : Nat) : addP (begP T W wt k) (idl T W wt k) = begP T W wt (k + 1) := by
  unfold begP idl
  rw [add_red2 (by omega), ← Int.mul_add]
  simp only [Num.sumN, Int.natCast_add]
theorem beg_flo {T : Int} {W : Nat} {wt : Nat → Nat} (h0 : 0 < W) (k : Nat) : Int.fdiv (begP T W wt k).1 (begP T W wt k).2 = flo T W wt k :=
  floor_congr (y := (T * (Num.sumN wt k : Nat), (W : Nat))) (red_pos (by omega)) (by simp only; omega) (same_red _ _)
theorem OwnC.keptD {w w' : World} {base size n : Nat} {t : TypeId} {v : Value} {c : Nat → Value} (h : OwnC w base t size v n c) (hb : Below w.drew.heap.size w.drew w') : OwnC w' base t size v n c := OwnC.kept (w := w.drew) h hb
theorem PairAt.belowD {w w' : World} {b : Nat} {t : TypeId} {u v : ByteArray} (h : PairAt w b t u v) (hb : Below w.drew.heap.size w.drew w') : PairAt w' b t u v := PairAt.below (w := w.drew) h hb
theorem OwnC.putPair {w : World} {base size n S : Nat} {t : TypeId} {v x y : Value} {c : Nat → Value} (h : OwnC w base t size v n c) (hS : S < base) : OwnC ((w.setCell ⟨S, 0, none⟩ x).setCell ⟨S, 1, none⟩ y) base t size v n c := by
  refine World.ownsRow.kept h (row := some S) ⟨rfl, rfl, rfl, by simp [World.setCell], fun k hk hne => ?_⟩ ?_
  · rw [Below.heap_setCell _ _ _ k (fun e => hne (by rw [e])), Below.heap_setCell _ _ _ k (fun e => hne (by rw [e]))]
  · cases hv : v.ownBlock with
    | none => exact .inl rfl
    | some b =>
      have := (World.ownsRow.lt h b hv).1
      exact .inr (by simp; omega)

set_option maxRecDepth 1000000 in
set_option maxHeartbeats 16000000 in
theorem rRunR_bad (w : World) (t : ByteArray) (xa : Option Addr) (n cap : Nat) (s : Nat → ByteArray) (hr : Rs w xa n s) (hf : FitQ n t s) (h : weighE t n s ≠ 0) :
    Calls Tryz.prog 19 #[.string t, .slice xa n cap] w fun e w' => e = .returned (nilE (weighE t n s)) ∧ Below w.heap.size w w' := by
  have HW := Lib.hid (rIdeal_bad w t xa n cap s hr hf h)
  obtain ⟨c, hc⟩ : ∃ c, weighE t n s = c := ⟨_, rfl⟩
  rw [hc] at HW ⊢
  have hb : (c != 0) = true := by rw [bne_iff_ne, ← hc]; exact h
  clear hc h hr hf
  unfold nilE at HW ⊢
  go_enter Tryz.func19, Tryz.ntmps19
  go_wp2_with fail
  refine HW.out.mono ?_
  rintro _ w1 ⟨rfl, hB⟩
  go_wp2_with fail
  go_ret2
  exact ⟨rfl, hB⟩

set_option maxRecDepth 1000000 in
set_option maxHeartbeats 16000000 in
theorem rRunR_ok (w : World) (hG : Ground w) (t : ByteArray) (xa : Option Addr) (n cap : Nat) (s : Nat → ByteArray) (hr : Rs w xa n s) (hf : FitQ n t s) (h : weighE t n s = 0) (ht30 : t.size ≤ 30) (hs30 : ∀ i, i < n → (s i).size ≤ 30) :
    Calls Tryz.prog 19 #[.string t, .slice xa n cap] w fun e w' => ∃ ya cy, e = .returned (.tuple #[.slice ya n cy, .int .i64 0]) ∧ Rs w' ya n (fun i => cS (Num.runP (vS t) (Num.sumN (wtN s) n) (wtN s) i)) ∧ Below w.heap.size w w' := by
  have hgd := weighE_zero h
  have hd := hgd.data hf.fitW
  obtain ⟨c, hc1, hdiv⟩ := hd.divc
  have hn0 := hgd.pos
  have hn := hdiv.few
  have hw0 := hdiv.w0
  have hWs : Num.sumN (wtN s) n < 10 ^ 60 := by
    have h1 := sumS_cap (s := s) (c := 30) (by decide) (k := n) (fun i hi => Cap.of (hs30 i hi) rfl)
    rw [hd.sum] at h1
    have h2 := Cap.mono (l := 60) h1 (by omega)
    unfold Cap at h2
    omega
  have hTc : Cap 30 (vS t) := Cap.of ht30 rfl
  have HW := Lib.hid (rIdeal_ok w hG t xa n cap s hr hf h)
  have HG := Lib.hid hG
  obtain ⟨T, hT⟩ : ∃ T, vS t = T := ⟨_, rfl⟩
  obtain ⟨W, hW⟩ : ∃ W, Num.sumN (wtN s) n = W := ⟨_, rfl⟩
  obtain ⟨wt, hwt⟩ : ∃ wt, wtN s = wt := ⟨_, rfl⟩
  rw [hT, hW, hwt] at HW ⊢
  rw [hW] at hw0
  rw [hW] at hWs
  rw [hT] at hTc
  have hsl : ∀ k, k ≤ n → Num.sumN wt k < 10 ^ 60 := fun k hk => by have := sumN_le (f := wt) hk; rw [hwt] at hW; omega
  have hW0 : (0 : Int) < (W : Nat) := by omega
  have hcW : Cap 90 (W : Nat) := Cap.mono (k := 60) (by unfold Cap; omega) (by decide)
  have hbc : ∀ k, k ≤ n → CapP 90 (begP T W wt k) := fun k hk => CapP.of_red hW0 (Cap.mul (k := 30) (l := 60) hTc (by have := hsl k hk; unfold Cap; omega)) hcW
  have hic : ∀ k, k < n → CapP 90 (idl T W wt k) := fun k hk => CapP.of_red hW0 (Cap.mul (k := 30) (l := 60) hTc (by have := hsl (k + 1) (by omega); simp only [Num.sumN] at this; unfold Cap; omega)) hcW
  have hfc : ∀ k, k ≤ n → Cap 91 (flo T W wt k) := fun k hk => Cap.fdiv' (Cap.mul (k := 30) (l := 60) hTc (by have := hsl k hk; unfold Cap; omega)) hW0
  have HADD := Lib.hid (fun k (hk : k < n) => (fun W' hW' => by
    have s1 := cS_size (hbc k (by omega)).1
    have s2 := cD_size (hbc k (by omega)).2
    have s3 := cS_size (hic k hk).1
    have s4 := cD_size (hic k hk).2
    have h1 := qAdd_any (begN T W wt k) (begD T W wt k) (idN T W wt k) (idD T W wt k) W' hW' (by unfold begN; omega) (by unfold begD; omega) (by unfold idN; omega) (by unfold idD; omega)
    rw [show raw (begN T W wt k) (begD T W wt k) = begP T W wt k from raw_can (red_pos hW0), show raw (idN T W wt k) (idD T W wt k) = idl T W wt k from raw_can (red_pos hW0), beg_next hw0] at h1
    exact h1 : Ret 67 #[.agg #[.string (begN T W wt k), .string (begD T W wt k)], .agg #[.string (idN T W wt k), .string (idD T W wt k)]] (.agg #[.string (begN T W wt (k + 1)), .string (begD T W wt (k + 1))])))
  have HFLO := Lib.hid (fun k (hk : k ≤ n) => (fun W' hW' => by
    have s1 := cS_size (hbc k hk).1
    have s2 := cD_size (hbc k hk).2
    have h1 := qFloor_any (begN T W wt k) (begD T W wt k) W' hW' (by unfold begN; omega) (by unfold begD; omega)
    rw [show raw (begN T W wt k) (begD T W wt k) = begP T W wt k from raw_can (red_pos hW0), beg_flo hw0] at h1
    exact h1 : Ret 52 #[.agg #[.string (begN T W wt k), .string (begD T W wt k)]] (.string (cS (flo T W wt k)))))
  have HSUB := Lib.hid (fun k (hk : k < n) => (fun W' _ => by
    have s1 := cS_size (hfc k (by omega))
    have s2 := cS_size (hfc (k + 1) (by omega))
    have h1 := rSub_any (cS (flo T W wt (k + 1))) (cS (flo T W wt k)) W' (by omega) (by omega)
    rw [vS_cS, vS_cS, ← runP_eq] at h1
    exact h1 : Ret 56 #[.string (cS (flo T W wt (k + 1))), .string (cS (flo T W wt k))] (.string (cS (Num.runP T W wt k)))))
  have hb0 : begP T W wt 0 = (0, 1) := by unfold begP; simp only [Num.sumN]; rw [show T * ((0 : Nat) : Int) = 0 by simp]; exact red_zero hW0
  have HN0 := Lib.hid (show begN T W wt 0 = ⟨#[]⟩ by unfold begN; rw [hb0]; exact cS_zero)
  have HD0 := Lib.hid (show begD T W wt 0 = ⟨#[]⟩ by unfold begD; rw [hb0]; exact cD_one)
  have HF0 := Lib.hid (show cS (flo T W wt 0) = ⟨#[]⟩ by rw [← beg_flo hw0, hb0]; exact cS_zero)
  clear hgd hd hdiv hr hf h hG hT hW hwt hc1 hWs ht30 hs30 hTc hw0 hsl hW0 hcW hbc hic hfc hb0
  go_enter Tryz.func19, Tryz.ntmps19
  go_wp2_with fail
  refine HW.out.mono ?_
  rintro _ w1 ⟨za, cz, hcz, rfl, hz, hB0⟩
  have HZ := Lib.hid hz
  have HBW := Lib.hid hB0
  have HG1 := Lib.hid (HG.out.below hB0)
  clear hz hB0 hcz HW
  go_upto_region 6 with fail
  obtain ⟨S0, hS0⟩ : ∃ b, w1.heap.size = b := ⟨_, rfl⟩
  obtain ⟨W2, hW2⟩ : ∃ W2, W2 = w1.alloc (.cells #[.string ⟨#[]⟩, .string ⟨#[]⟩] 36) := ⟨_, rfl⟩
  have hBX : PairAt W2 S0 36 (begN T W wt 0) (begD T W wt 0) := by rw [hW2, ← hS0, HN0.out, HD0.out]; exact PairAt.made _ _ _ _
  have HBX0 := Lib.hid hBX
  have HB0 := Lib.hid (show Below w1.heap.size w1 W2 by rw [hW2]; exact (Below.refl _ _).alloc (Nat.le_refl _) _)
  have HS0 := Lib.hid hS0
  rw [← hW2, hS0]
  clear hW2 hS0 hBX
  go_wp2_with fail
  go_loopw [8, 10, 11] (fun ov bv iv wr => ∃ (k : Nat) (vv : Value), k ≤ n ∧ iv = .int .i64 (k : Int) ∧ bv = .string (cS (flo T W wt k)) ∧ vv = ov ∧ Hid (OwnS wr (S0 + 1) vv k (fun i => cS (Num.runP T W wt i))) ∧ Hid (PairAt wr S0 36 (begN T W wt k) (begD T W wt k)) ∧ Hid (Below w1.heap.size w1 wr)) (fun _ _ iv _ => n - (intOf iv).toNat)
  case atStart => exact ⟨0, _, Nat.zero_le _, rfl, by rw [HF0.out], rfl, Lib.hid (OwnC.nil _ _ _ _ _), HBX0, HB0⟩
  case round =>
    clear HBX0 HB0
    obtain ⟨k, vv, hk, rfl, rfl, rfl, HO, HBX, HB⟩ := hrel
    have hw1 : IntKind.i64.wrap ((k : Int) + 1) = (k : Int) + 1 := IntWalk.i64_in _ (by omega)
    by_cases hlt : k < n
    · obtain ⟨zb, zo, rfl, hzb, hz1, hz2⟩ := Rf.at HZ.out hlt
      have m1 := (HB.out.cell (p := ⟨zb, zo + k * 2, none⟩) hzb).trans hz1
      have m2 := (HB.out.cell (p := ⟨zb, zo + k * 2 + 1, none⟩) hzb).trans hz2
      have H1 := Lib.hid (HADD.out k hlt)
      have H2 := Lib.hid (HFLO.out (k + 1) (by omega))
      have H3 := Lib.hid (HSUB.out k hlt)
      have hS0w : w1.heap.size ≤ S0 := by have := HS0.out; omega
      obtain ⟨p1, p2, p3, p4⟩ := HBX.out.cells
      obtain ⟨un, hun⟩ : ∃ x, idN T W wt k = x := ⟨_, rfl⟩
      obtain ⟨ud, hud⟩ : ∃ x, idD T W wt k = x := ⟨_, rfl⟩
      obtain ⟨bn, hbn⟩ : ∃ x, begN T W wt k = x := ⟨_, rfl⟩
      obtain ⟨bd, hbd⟩ : ∃ x, begD T W wt k = x := ⟨_, rfl⟩
      obtain ⟨cn, hcn⟩ : ∃ x, begN T W wt (k + 1) = x := ⟨_, rfl⟩
      obtain ⟨cd, hcd⟩ : ∃ x, begD T W wt (k + 1) = x := ⟨_, rfl⟩
      rw [hun] at m1
      rw [hud] at m2
      rw [hbn] at p1
      rw [hbd] at p2
      rw [hbn, hbd] at HBX
      rw [hbn, hbd, hun, hud, hcn, hcd] at H1
      rw [hcn, hcd] at H2
      obtain ⟨f0, hf0⟩ : ∃ x, cS (flo T W wt k) = x := ⟨_, rfl⟩
      obtain ⟨f1, hf1⟩ : ∃ x, cS (flo T W wt (k + 1)) = x := ⟨_, rfl⟩
      obtain ⟨rr, hrr⟩ : ∃ x, cS (Num.runP T W wt k) = x := ⟨_, rfl⟩
      rw [hf1] at H2
      rw [hf0, hf1, hrr] at H3
      rw [hf0]
      have HCN := Lib.hid hcn
      have HCD := Lib.hid hcd
      have HF1 := Lib.hid hf1
      have HRR := Lib.hid hrr
      clear hun hud hbn hbd hcn hcd hf0 hf1 hrr hz1 hz2 hzb
      go_upto_region 9 with fail
      go_cut [] (fun wx => OwnS wx (S0 + 1) vv k (fun i => cS (Num.runP T W wt i)) ∧ PairAt wx S0 36 cn cd ∧ Below w1.heap.size w1 wx)
      case first =>
        go_region_with (first
          | (go_at_call 67;
             (with_reducible refine Calls.mono (H1.out _ (by first | exact HG1.out.below HB.out | exact HG1.out.below (below_drew HB.out) | exact HG1.out.below (below_drewN HB.out _))) ?_);
             (rintro _ WX ⟨rfl, hB1⟩);
             (have HO2 := Lib.hid (show OwnS WX (S0 + 1) vv k (fun i => cS (Num.runP T W wt i)) from by first | exact HO.out.kept hB1 | exact OwnC.keptD HO.out hB1));
             (have HX2 := Lib.hid (show PairAt WX S0 36 bn bd from by first | exact HBX.out.below hB1 | exact PairAt.belowD HBX.out hB1));
             (have HB2 := Lib.hid (show Below w1.heap.size w1 WX from by first | exact HB.out.trans (hB1.mono HB.out.size) | exact (below_drew HB.out).trans (hB1.mono HB.out.size) | exact (below_drewN HB.out _).trans (hB1.mono HB.out.size)));
             (obtain ⟨p1, p2, p3, p4⟩ := HX2.out.cells);
             (clear hB1)))
        all_goals go_wp2_with fail
        all_goals go_meet
        all_goals have hfin : OwnS ((WX.setCell ⟨S0, 0, none⟩ (.string cn)).setCell ⟨S0, 1, none⟩ (.string cd)) (S0 + 1) vv k (fun i => cS (Num.runP T W wt i)) ∧ PairAt ((WX.setCell ⟨S0, 0, none⟩ (.string cn)).setCell ⟨S0, 1, none⟩ (.string cd)) S0 36 cn cd ∧ Below w1.heap.size w1 ((WX.setCell ⟨S0, 0, none⟩ (.string cn)).setCell ⟨S0, 1, none⟩ (.string cd)) := ⟨OwnC.putPair HO2.out (by omega), HX2.out.put cn cd, below_put HB2.out hS0w _ _⟩
        all_goals first
          | exact hfin
          | exact ⟨hfin.1, hfin.2.1, below_drew hfin.2.2⟩
          | exact ⟨hfin.1, hfin.2.1, below_drewN hfin.2.2 _⟩
      obtain ⟨hO, hX, hB⟩ := hcut
      have HO1 := Lib.hid hO
      have HX1 := Lib.hid hX
      have HB1 := Lib.hid hB
      clear hO hX hB HO HBX HB m1 m2 p1 p2 p3 p4
      obtain ⟨p1, p2, _, _⟩ := HX1.out.cells
      go_wp2_with fail
      refine Calls.mono (Ret.call H2.out _ (HG1.out.below HB1.out)) ?_
      rintro _ w4 ⟨rfl, hB⟩
      have HO2 := Lib.hid (HO1.out.kept hB)
      have HX2 := Lib.hid (HX1.out.below hB)
      have HB2 := Lib.hid (HB1.out.trans (hB.mono HB1.out.size))
      clear hB HO1 HX1 HB1 p1 p2
      go_wp2_with fail
      refine Calls.mono (Ret.call H3.out _ (HG1.out.below HB2.out)) ?_
      rintro _ w5 ⟨rfl, hB⟩
      have HX3 := Lib.hid ((HX2.out.below hB).alloc (.cells #[.string rr] 22))
      have HO3 := Lib.hid (HO2.out.kept hB |>.alloc (.cells #[.string rr] 22))
      have hlt5 : S0 + 1 ≤ (w5.alloc (.cells #[.string rr] 22)).heap.size := by have := HX3.out.lt; omega
      have HB3 := Lib.hid ((HB2.out.trans (hB.mono HB2.out.size)).alloc (by have := HB2.out.size; have := hB.size; omega) (.cells #[.string rr] 22))
      have HC1 := Lib.hid (show (w5.alloc (.cells #[.string rr] 22)).cell? ⟨w5.heap.size, 0, none⟩ = some (.string ((fun i => cS (Num.runP T W wt i)) k)) by dsimp only; rw [HRR.out]; exact cell_of_row _ _ _ _ _ _ (heap_alloc_new w5 _))
      clear hB HO2 HX2 HB2
      go_wp2_with (at_builtin; refine wp_addStr rfl _ _ rfl (S0 + 1) _ k (fun i => cS (Num.runP T W wt i)) rfl HO3.out w5.heap.size HC1.out rfl (by omega) hlt5 ?_; intro v6 W6 hO hB; have HO4 := Lib.hid hO; have HX4 := Lib.hid (show PairAt W6 S0 36 cn cd from (hB.block S0 (Nat.lt_succ_self _)).trans HX3.out); have HB4 := Lib.hid (HB3.out.trans (hB.mono (show w1.heap.size ≤ S0 + 1 by omega))); clear hO hB HO3 HX3 HB3 HC1)
      go_roundw
      case rel => exact ⟨k + 1, _, by omega, by simp, by rw [HF1.out], rfl, HO4, by rw [HCN.out, HCD.out]; exact HX4, HB4⟩
      case measure => simp [intOf]; omega
    · obtain rfl : k = n := by omega
      obtain ⟨ma, mc, rfl, hmr, _, _, _, _⟩ := HO.out.rc
      rw [Nat.mul_one] at hmr
      have hb := HBW.out.trans (HB.out.mono HBW.out.size)
      clear HO HBX HB
      go_wp2_with fail
      go_ret2
      first
        | exact ⟨_, ⟨_, rfl⟩, hmr, hb⟩
        | exact ⟨_, _, rfl, hmr, hb⟩

end Go.Proofs.YthhihdihkddakaaGreatDoor

/- slices.Repeat of one string, allocate.Even: the walks. -/
namespace Go.Proofs.YthhihdihkddakaaGreatDoor
open Go.RowKit

theorem wp_copyEq {w w2 : World} {ops : Array Oper} {rest : List Oper} {o : Oper} {a : Act} {Q : Exit → Act → World → Prop} (hgd : o.guard = none) (d s : Operand)
    (ho : o.op = .call { callee := .builtin .copy, args := #[d, s], argTypes := #[23, 23] }) (c : Value)
    (hr : (Builtin.copy_ #[23, 23] o.type #[a.eval d, a.eval s]).run Tryz.prog w = .ok c w2)
    (hK : wpList Tryz.prog ops Q rest (a.put o.dst c) w2) : wpList Tryz.prog ops Q (o :: rest) a w := by
  refine wpList_plain hgd fun K hK' => ?_
  unfold Oper.wp execOp
  simp only [ho, resolve, invoke, builtin, Sem.run_bind, Sem.run_pure, Result.andThen_ok, List.map_toArray, List.map_cons, List.map_nil, hr]
  exact hK' _ _ hK
theorem fill_list (n off c : Nat) (f : Nat → Value) (y : Value) (h : off + c ≤ n) : ((List.range n).map f).take off ++ List.replicate c y ++ ((List.range n).map f).drop (off + c) = (List.range n).map fun i => if off ≤ i ∧ i < off + c then y else f i := by
  apply List.ext_getElem?
  intro k
  have hr : ∀ g : Nat → Value, ((List.range n).map g)[k]? = if k < n then some (g k) else none := fun g => by
    by_cases hk : k < n
    · rw [if_pos hk, List.getElem?_map, List.getElem?_range hk]; rfl
    · rw [if_neg hk, List.getElem?_eq_none (by simp; omega)]
  rw [hr]
  by_cases k1 : k < off
  · rw [List.append_assoc, List.getElem?_append_left (by simp; omega), List.getElem?_take, if_pos k1, hr, if_pos (by omega), if_pos (by omega), if_neg (by omega)]
  · by_cases k2 : k < off + c
    · rw [List.getElem?_append_left (by simp; omega), List.getElem?_append_right (by simp; omega), List.getElem?_replicate, if_pos (by simp; omega), if_pos (by omega), if_pos (by omega)]
    · rw [List.getElem?_append_right (by simp; omega), List.getElem?_drop, show off + c + (k - (List.take off (List.map f (List.range n)) ++ List.replicate c y).length) = k by simp; omega, hr, if_neg (show ¬ (off ≤ k ∧ k < off + c) by omega)]
theorem run_copyStr {W : World} {P n c off dLen dCap sLen sCap : Nat} {a : Addr} {f : Nat → ByteArray} (h : RowC W P 22 n fun i => .string (f i)) (x : ByteArray) (ty : TypeId) (hc : c = Nat.min sLen dLen) (hoff : off + c ≤ n) (hsrc : ∀ j, j < c → W.cell? (a.add j) = some (.string x)) :
    ∃ W', (Builtin.copy_ #[23, 23] ty #[.slice (some ⟨P, off, none⟩) dLen dCap, .slice (some a) sLen sCap]).run Tryz.prog W = .ok (.int .i64 (c : Nat)) W' ∧ (RowC W' P 22 n fun i => .string (if off ≤ i ∧ i < off + c then x else f i)) ∧ Below P W W' := by
  obtain ⟨i0, hi, _, hz1, _⟩ := info_parts info_Int
  have hr := run_copy_row (P := Tryz.prog) W 23 23 ty 22 P off dLen dCap a sLen sCap _ 22 (List.replicate c (.string x)) Tryz.underlying23 (by rw [hi]; simp [hz1]) h (by simpa using hc)
    (fun j v hj => by
      have hl := (List.getElem?_eq_some_iff.1 hj).1
      simp at hl
      rw [List.getElem?_replicate, if_pos hl] at hj
      cases hj
      exact hsrc j hl) (by simpa using hoff) (fun v hv => by rw [List.eq_of_mem_replicate hv]; rfl)
  refine ⟨_, hr.trans (by rw [List.length_replicate]; rfl), ?_, below_setRow (Below.refl _ _) (Nat.le_refl _) _⟩
  unfold RowC
  rw [setRow_heap W P _ _ _ (0, 0) h]
  have hfl := fill_list n off c (fun i => Value.string (f i)) (.string x) hoff
  have hfe : (fun i => if off ≤ i ∧ i < off + c then Value.string x else Value.string (f i)) = fun i => Value.string (if off ≤ i ∧ i < off + c then x else f i) := funext fun i => by split <;> rfl
  rw [hfl, hfe]

set_option maxRecDepth 100000 in
set_option maxHeartbeats 8000000 in
theorem aRepeat (w : World) (g n : Nat) (x : ByteArray) (hx : w.cell? ⟨g, 0, none⟩ = some (.string x)) (hn0 : 0 < n) (hn : n ≤ 1000) :
    Calls Tryz.prog 68 #[.slice (some ⟨g, 0, none⟩) 1 1, .int .i64 (n : Int)] w fun e w' => ∃ P, e = .returned (.slice (some ⟨P, 0, none⟩) n n) ∧ (RowC w' P 22 n fun _ => .string x) ∧ Below w.heap.size w w' := by
  have hmk := run_makeStrs n (by omega)
  have HMU := Lib.hid (fun W => (Tryz.bits_Mul 1 n (by decide) (by omega) W).mono (R' := fun e w' => e = .returned (.tuple #[.int .u64 ((1 * n / 18446744073709551616 : Nat) : Int), .int .u64 ((1 * n % 18446744073709551616 : Nat) : Int)]) ∧ W = w') fun _ _ h => ⟨h.1, h.2.symm⟩)
  rw [show ((1 * n / 18446744073709551616 : Nat) : Int) = 0 by omega, show ((1 * n % 18446744073709551616 : Nat) : Int) = (n : Int) by omega] at HMU
  have hlt0 : ¬ (n : Int) < 0 := by omega
  have hw1 : IntKind.u64.wrap (n : Int) = (n : Int) := IntWalk.u64_in _ (by omega)
  have hw2 : IntKind.i64.wrap (n : Int) = (n : Int) := IntWalk.i64_in _ (by omega)
  have hw3 : IntKind.u64.wrap 1 = 1 := IntWalk.u64_in _ (by omega)
  have hle : ¬ (9223372036854775807 : Int) < (n : Int) := by omega
  obtain ⟨P, hP⟩ : ∃ P, w.heap.size = P := ⟨_, rfl⟩
  obtain ⟨W1, hW1⟩ : ∃ W1, W1 = w.alloc (.cells (madeCells #[.string ⟨#[]⟩] n) 22) := ⟨_, rfl⟩
  have hR1 : RowC W1 P 22 n fun _ => .string ⟨#[]⟩ := by rw [hW1, ← hP]; exact RowC.made w 22 (.string ⟨#[]⟩) n
  have hB1 : Below w.heap.size w W1 := by rw [hW1]; exact (Below.refl _ _).alloc (Nat.le_refl _) _
  have hgw : g < w.heap.size := World.block_lt_of_cell? w _ hx
  have hx1 : W1.cell? ⟨g, 0, none⟩ = some (.string x) := (hB1.cell (p := ⟨g, 0, none⟩) hgw).trans hx
  obtain ⟨W2, hcp, hR2, hB2⟩ := run_copyStr (c := 1) (off := 0) (dLen := n) (dCap := n) (sLen := 1) (sCap := 1) (a := ⟨g, 0, none⟩) hR1 x 3 (by show 1 = min 1 n; omega) (by omega) (fun j hj => by obtain rfl : j = 0 := (by omega); simpa [Addr.add] using hx1)
  have HR := Lib.hid (show RowC W2 P 22 n fun i => .string (if i < 1 then x else ⟨#[]⟩) from hR2.congr fun i _ => by simp)
  have HB := Lib.hid (show Below w.heap.size w W2 from hB1.trans (hB2.mono (by omega)))
  have HW1 := Lib.hid hW1
  have HPP := Lib.hid hP
  clear hR1 hB1 hR2 hB2 hW1 hP hx hgw
  go_enter Tryz.func68, Tryz.ntmps68
  go_wp2_with fail
  refine (HMU.out _).mono ?_
  rintro _ _ ⟨rfl, rfl⟩
  go_upto_region 7 with fail
  rw [← HW1.out]
  try rw [HPP.out]
  go_wp2_with (at_builtin; refine wp_copyEq rfl _ _ rfl _ hcp ?_)
  go_loopw [8] (fun mv wr => ∃ m : Nat, 1 ≤ m ∧ m ≤ n ∧ mv = .int .i64 (m : Int) ∧ Hid (RowC wr P 22 n fun i => .string (if i < m then x else ⟨#[]⟩)) ∧ Hid (Below w.heap.size w wr)) (fun mv _ => n - (intOf mv).toNat)
  case atStart => exact ⟨1, Nat.le_refl _, by omega, rfl, HR, HB⟩
  case round =>
    clear HR HB hcp
    obtain ⟨m, hm1, hmn, rfl, HR, HB⟩ := hrel
    by_cases hlt : m < n
    · obtain ⟨c, hc⟩ : ∃ c, c = min m (n - m) := ⟨_, rfl⟩
      have hcb : 1 ≤ c ∧ m + c ≤ n := by omega
      have hcm : c ≤ m := by omega
      obtain ⟨W3, hcp, hR3, hB3⟩ := run_copyStr (W := wr.drew) (n := n) (c := c) (off := m) (dLen := n - m) (dCap := n - m) (sLen := m) (sCap := n) (a := ⟨P, 0, none⟩) (f := fun i => if i < m then x else ⟨#[]⟩) (HR.out.drewN 1) x 3 hc hcb.2 (fun j hj => by
        have := (HR.out.drewN 1).cell (i := j) (by omega)
        rw [if_pos (by omega)] at this
        rw [addr_add]
        exact this)
      have HR3 := Lib.hid (show RowC W3 P 22 n fun i => .string (if i < m + c then x else ⟨#[]⟩) from hR3.congr fun i _ => by
        by_cases e : m ≤ i ∧ i < m + c
        · rw [if_pos e, if_pos e.2]
        · rw [if_neg e]
          by_cases e2 : i < m
          · rw [if_pos e2, if_pos (by omega)]
          · rw [if_neg e2, if_neg (by omega)])
      have HB3 := Lib.hid (show Below w.heap.size w W3 from (below_drew HB.out).trans (hB3.mono (show w.heap.size ≤ P by have := HPP.out; omega)))
      have hi1 : (0 : Int) ≤ (m : Int) := by omega
      have hi2 : (m : Int) ≤ (n : Int) := by omega
      have hi3 : (m : Int) < (n : Int) := by omega
      have hi4 : m ≠ n := by omega
      have hi5 : n ≠ m := by omega
      have hi6 : ¬ n = m := by omega
      have hsum : IntKind.i64.wrap ((m : Int) + (c : Int)) = (m : Int) + (c : Int) := IntWalk.i64_in _ (by omega)
      have hc1 := hcb.1
      have hc2 := hcb.2
      clear hc hR3 hB3 HR HB hcb hcm
      go_wp2_with fail
      refine wp_region_held_drew (S := fun _ => True) (by kernel_rfl) (by exact True.intro) (fun hHeld => ?_)
      refine wpAnyH_take (i := 0) (oi := { dst := some 38, op := Op.move (Operand.tmp 8), type := 3, pos := "slices.go:528", after := #[], guard := none }) (v := ?_) rfl (by kernel_rfl) (by kernel_rfl) (by kernel_rfl) (fun _ _ _ h => h) (Or.inl ⟨by rfl, ?_⟩) (by assumption) ?_
      rotate_left
      focus ((intro w hSw; (try dsimp only at hSw); go_simp); (try with_reducible rfl))
      try simp only [Act.put, List.setIfInBounds_toArray, List.set_cons_zero, List.set_cons_succ]
      refine wpAnyH_take (i := 1) (oi := { dst := some 39, op := Op.move (Operand.tmp 7), type := 23, pos := "slices.go:528", after := #[], guard := none }) (v := ?_) rfl (by kernel_rfl) (by kernel_rfl) (by kernel_rfl) (fun _ _ _ h => h) (Or.inl ⟨by rfl, ?_⟩) (by assumption) ?_
      rotate_left
      focus ((intro w hSw; (try dsimp only at hSw); go_simp); (try with_reducible rfl))
      try simp only [Act.put, List.setIfInBounds_toArray, List.set_cons_zero, List.set_cons_succ]
      refine wpAnyH_take (i := 2) (oi := { dst := some 40, op := Op.move (Operand.tmp 8), type := 3, pos := "slices.go:528", after := #[], guard := none }) (v := ?_) rfl (by kernel_rfl) (by kernel_rfl) (by kernel_rfl) (fun _ _ _ h => h) (Or.inl ⟨by rfl, ?_⟩) (by assumption) ?_
      rotate_left
      focus ((intro w hSw; (try dsimp only at hSw); go_simp); (try with_reducible rfl))
      try simp only [Act.put, List.setIfInBounds_toArray, List.set_cons_zero, List.set_cons_succ]
      refine wpAnyH_take (i := 3) (oi := { dst := some 41, op := Op.slice 23 (Operand.tmp 39) (some (Operand.tmp 40)) none none, type := 23, pos := "slices.go:528", after := #[{ on := 1, ground := Ground.data }, { on := 2, ground := Ground.data }], guard := none }) (v := ?_) rfl (by kernel_rfl) (by kernel_rfl) (by kernel_rfl) (fun _ _ _ h => h) (Or.inl ⟨by rfl, ?_⟩) (by assumption) ?_
      rotate_left
      focus ((intro w hSw; (try dsimp only at hSw); go_simp); (try with_reducible rfl))
      try simp only [Act.put, List.setIfInBounds_toArray, List.set_cons_zero, List.set_cons_succ]
      refine wpAnyH_take (i := 4) (oi := { dst := some 42, op := Op.move (Operand.tmp 7), type := 23, pos := "slices.go:528", after := #[], guard := none }) (v := ?_) rfl (by kernel_rfl) (by kernel_rfl) (by kernel_rfl) (fun _ _ _ h => h) (Or.inl ⟨by rfl, ?_⟩) (by assumption) ?_
      rotate_left
      focus ((intro w hSw; (try dsimp only at hSw); go_simp); (try with_reducible rfl))
      try simp only [Act.put, List.setIfInBounds_toArray, List.set_cons_zero, List.set_cons_succ]
      refine wpAnyH_take (i := 5) (oi := { dst := some 43, op := Op.move (Operand.tmp 8), type := 3, pos := "slices.go:528", after := #[], guard := none }) (v := ?_) rfl (by kernel_rfl) (by kernel_rfl) (by kernel_rfl) (fun _ _ _ h => h) (Or.inl ⟨by rfl, ?_⟩) (by assumption) ?_
      rotate_left
      focus ((intro w hSw; (try dsimp only at hSw); go_simp); (try with_reducible rfl))
      try simp only [Act.put, List.setIfInBounds_toArray, List.set_cons_zero, List.set_cons_succ]
      refine wpAnyH_take (i := 6) (oi := { dst := some 44, op := Op.slice 23 (Operand.tmp 42) none (some (Operand.tmp 43)) none, type := 23, pos := "slices.go:528", after := #[{ on := 4, ground := Ground.data }, { on := 5, ground := Ground.data }], guard := none }) (v := ?_) rfl (by kernel_rfl) (by kernel_rfl) (by kernel_rfl) (fun _ _ _ h => h) (Or.inl ⟨by rfl, ?_⟩) (by assumption) ?_
      rotate_left
      focus ((intro w hSw; (try dsimp only at hSw); go_simp); (try with_reducible rfl))
      try simp only [Act.put, List.setIfInBounds_toArray, List.set_cons_zero, List.set_cons_succ]
      refine wpAnyH_ready (rs := [7]) (by kernel_rfl) (by simp) ?_
      refine AllReadyH.cons (o := { dst := some 45, op := Op.call { callee := Callee.builtin Builtin.copy, args := #[Operand.tmp 41, Operand.tmp 44], argTypes := #[23, 23] }, type := 3, pos := "slices.go:528", after := #[{ on := 3, ground := Ground.data }, { on := 6, ground := Ground.data }], guard := none }) rfl (fun K hK => ?_) AllReadyH.nil
      clear hHeld
      go_simp
      refine hK.out _ _ (by exact True.intro) (fun hHeld => ?_)
      clear hK K
      try simp only [Act.put, List.setIfInBounds_toArray, List.set_cons_zero, List.set_cons_succ]
      refine wpAnyH_take (i := 8) (oi := { dst := some 46, op := Op.binOp BinOp.add 3 (Operand.tmp 38) (Operand.tmp 45) 3, type := 3, pos := "slices.go:528", after := #[{ on := 0, ground := Ground.data }, { on := 7, ground := Ground.data }], guard := none }) (v := ?_) rfl (by kernel_rfl) (by kernel_rfl) (by kernel_rfl) (fun _ _ _ h => h) (Or.inl ⟨by rfl, ?_⟩) (by assumption) ?_
      rotate_left
      focus ((intro w hSw; (try dsimp only at hSw); go_simp); (try with_reducible rfl))
      try simp only [Act.put, List.setIfInBounds_toArray, List.set_cons_zero, List.set_cons_succ]
      refine wpAnyH_take (i := 9) (oi := { dst := some 8, op := Op.assign (Operand.tmp 46), type := 3, pos := "slices.go:528", after := #[{ on := 8, ground := Ground.data }, { on := 7, ground := Ground.chain }, { on := 0, ground := Ground.phase }, { on := 1, ground := Ground.phase }, { on := 2, ground := Ground.phase }, { on := 3, ground := Ground.phase }, { on := 4, ground := Ground.phase }, { on := 5, ground := Ground.phase }, { on := 6, ground := Ground.phase }, { on := 7, ground := Ground.phase }, { on := 8, ground := Ground.phase }], guard := none }) (v := ?_) rfl (by kernel_rfl) (by kernel_rfl) (by kernel_rfl) (fun _ _ _ h => h) (Or.inl ⟨by rfl, ?_⟩) (by assumption) ?_
      rotate_left
      focus ((intro w hSw; (try dsimp only at hSw); go_simp); (try with_reducible rfl))
      try simp only [Act.put, List.setIfInBounds_toArray, List.set_cons_zero, List.set_cons_succ]
      refine wpAnyH_done (by kernel_rfl) ?_ _
      clear hHeld
      go_wp2_with fail
      go_roundw
      case rel => exact ⟨m + c, by omega, by omega, by simp, HR3, HB3⟩
      case measure => simp [intOf]; omega
    · obtain rfl : m = n := by omega
      have HF := Lib.hid (HR.out.congr (d := fun _ => .string x) (fun i hi => by rw [if_pos hi]))
      go_wp2_with fail
      go_ret
      exact ⟨P, rfl, HF.out, HB.out⟩

set_option maxRecDepth 100000 in
set_option maxHeartbeats 8000000 in
theorem aEven_no (w : World) (t : ByteArray) (N : Int) (h : N < 1 ∨ 1000 < N) :
    Calls Tryz.prog 20 #[.string t, .int .i64 N] w fun e w' => e = .returned (nilE 2) ∧ Below w.heap.size w w' := by
  unfold nilE
  rcases h with h | h
  · have hd : decide (N < 1) = true := decide_eq_true h
    go_enter Tryz.func20, Tryz.ntmps20
    go_wp2_with fail
    go_ret2
    exact ⟨rfl, Below.refl _ _⟩
  · have h1 : ¬ N < 1 := by omega
    go_enter Tryz.func20, Tryz.ntmps20
    go_wp2_with fail
    go_ret2
    exact ⟨rfl, Below.refl _ _⟩

set_option maxRecDepth 100000 in
set_option maxHeartbeats 8000000 in
theorem aEven_walk (w : World) (hG : Ground w) (t : ByteArray) (n : Nat) (hn0 : 0 < n) (hn : n ≤ 100) (Ψ : Option Addr → Nat → Nat → Int → World → Prop)
    (hS : ∀ W xa cap, Ground W → Rs W xa n (fun _ => ⟨#[49]⟩) → Calls Tryz.prog 14 #[.string t, .slice xa n cap] W fun e w' => ∃ ya m cy c, e = .returned (.tuple #[.slice ya m cy, .int .i64 c]) ∧ Ψ ya m cy c w' ∧ Below W.heap.size W w') :
    Calls Tryz.prog 20 #[.string t, .int .i64 (n : Int)] w fun e w' => ∃ ya m cy c, e = .returned (.tuple #[.slice ya m cy, .int .i64 c]) ∧ Ψ ya m cy c w' ∧ Below w.heap.size w w' := by
  have HS := Lib.hid hS
  have HG := Lib.hid hG
  have h1 : ¬ (n : Int) < 1 := by omega
  have h2 : ¬ (1000 : Int) < (n : Int) := by omega
  have HRP := Lib.hid (aRepeat (w.alloc (.cells #[.string ⟨#[49]⟩] 22)) w.heap.size n ⟨#[49]⟩ (cell_of_row _ _ _ _ _ _ (heap_alloc_new w _)) hn0 (by omega))
  have HB := Lib.hid (show Below w.heap.size w (w.alloc (.cells #[.string ⟨#[49]⟩] 22)) from (Below.refl _ _).alloc (Nat.le_refl _) _)
  clear hS hG
  go_enter Tryz.func20, Tryz.ntmps20
  go_wp2_with fail
  refine HRP.out.mono ?_
  rintro _ w1 ⟨P, rfl, hP, hB1⟩
  have HB1 := Lib.hid (HB.out.trans (hB1.mono HB.out.size))
  have hmr : Rs w1 (some ⟨P, 0, none⟩) n (fun _ => ⟨#[49]⟩) := hP.rc
  clear hB1 HB hP
  go_wp2_with fail
  refine (HS.out _ _ _ (HG.out.below HB1.out) hmr).mono ?_
  rintro _ w2 ⟨ya, m, cy, c, rfl, hΨ, hB⟩
  have HΨ := Lib.hid hΨ
  have HB2 := Lib.hid (HB1.out.trans (hB.mono HB1.out.size))
  clear hΨ hB hmr HB1
  go_wp2_with fail
  go_ret2
  first
    | exact ⟨_, _, _, _, rfl, HΨ.out, HB2.out⟩
    | exact ⟨ya, m, cy, c, rfl, HΨ.out, HB2.out⟩


end Go.Proofs.YthhihdihkddakaaGreatDoor

/- slices.Equal of fractions that are the same; the reference's Even: the walks. -/
namespace Go.Proofs.YthhihdihkddakaaGreatDoor
open Go.RowKit Fra

set_option maxRecDepth 100000 in
set_option maxHeartbeats 8000000 in
theorem eqFrac (w : World) (xa ya : Option Addr) (n cap cap' : Nat) (u v : Nat → ByteArray) (hx : Rf w xa n u v) (hy : Rf w ya n u v) (hlim : n ≤ 100000) :
    Calls Tryz.prog 23 #[.slice xa n cap, .slice ya n cap'] w fun e w' => e = .returned (.bool true) ∧ Below w.heap.size w w' := by
  go_enter Tryz.func23, Tryz.ntmps23
  go_wp2_with fail
  go_loopw [13] (fun iv wr => ∃ k : Nat, k ≤ n ∧ iv = .int .i64 (k : Int) ∧ ∃ q, wr = w.drewN q) (fun iv _ => n - (intOf iv).toNat)
  case atStart => exact ⟨0, Nat.zero_le _, rfl, 0, rfl⟩
  case round =>
    obtain ⟨k, hk, rfl, q, rfl⟩ := hrel
    by_cases hlt : k < n
    · obtain ⟨b, o, rfl, hb, hck, hck1⟩ := Rf.at hx hlt
      obtain ⟨b2, o2, rfl, hb2, hck2, hck3⟩ := Rf.at hy hlt
      obtain ⟨x, hxx⟩ : ∃ x, u k = x := ⟨_, rfl⟩
      obtain ⟨y, hyy⟩ : ∃ y, v k = y := ⟨_, rfl⟩
      rw [hxx] at hck hck2
      rw [hyy] at hck1 hck3
      have hfg := fun X Y W => frac_guardn X Y x y x y W
      have hfs := frac_nsame x y
      clear hx hy hxx hyy
      go_wp2_with fail
      go_quiet (fail)
      go_wp2_with fail
      go_roundw
      case rel => exact ⟨k + 1, by omega, by simp, _, rfl⟩
      case measure => simp [intOf]; omega
    · obtain rfl : k = n := by omega
      go_wp2_with fail
      go_ret
      exact ⟨rfl, below_drewN (Below.refl _ _) _⟩

set_option maxRecDepth 100000 in
set_option maxHeartbeats 8000000 in
theorem rEven_no (w : World) (t : ByteArray) (N : Int) (h : N < 1 ∨ 1000 < N) :
    Calls Tryz.prog 21 #[.string t, .int .i64 N] w fun e w' => e = .returned (nilE 2) ∧ Below w.heap.size w w' := by
  unfold nilE
  rcases h with h | h
  · have hd : decide (N < 1) = true := decide_eq_true h
    go_enter Tryz.func21, Tryz.ntmps21
    go_wp2_with fail
    go_ret2
    exact ⟨rfl, Below.refl _ _⟩
  · have h1 : ¬ N < 1 := by omega
    go_enter Tryz.func21, Tryz.ntmps21
    go_wp2_with fail
    go_ret2
    exact ⟨rfl, Below.refl _ _⟩

set_option maxRecDepth 100000 in
set_option maxHeartbeats 8000000 in
theorem rEven_walk (w : World) (hG : Ground w) (t : ByteArray) (n : Nat) (hn0 : 0 < n) (hn : n ≤ 100) (Ψ : Option Addr → Nat → Nat → Int → World → Prop)
    (hS : ∀ W xa cap, Ground W → Rs W xa n (fun _ => ⟨#[49]⟩) → Calls Tryz.prog 15 #[.string t, .slice xa n cap] W fun e w' => ∃ ya m cy c, e = .returned (.tuple #[.slice ya m cy, .int .i64 c]) ∧ Ψ ya m cy c w' ∧ Below W.heap.size W w') :
    Calls Tryz.prog 21 #[.string t, .int .i64 (n : Int)] w fun e w' => ∃ ya m cy c, e = .returned (.tuple #[.slice ya m cy, .int .i64 c]) ∧ Ψ ya m cy c w' ∧ Below w.heap.size w w' := by
  have HS := Lib.hid hS
  have HG := Lib.hid hG
  have h1 : ¬ (n : Int) < 1 := by omega
  have h2 : ¬ (1000 : Int) < (n : Int) := by omega
  clear hS hG
  go_enter Tryz.func21, Tryz.ntmps21
  go_wp2_with fail
  go_loopw [6, 7] (fun ov iv wr => ∃ (k : Nat) (vv : Value), k ≤ n ∧ iv = .int .i64 (k : Int) ∧ vv = ov ∧ Hid (OwnS wr w.heap.size vv k (fun _ => ⟨#[49]⟩)) ∧ Hid (Below w.heap.size w wr)) (fun _ iv _ => n - (intOf iv).toNat)
  case atStart => exact ⟨0, _, Nat.zero_le _, rfl, rfl, Lib.hid (OwnC.nil _ _ _ _ _), Lib.hid (Below.refl _ _)⟩
  case round =>
    obtain ⟨k, vv, hk, rfl, rfl, HO, HB⟩ := hrel
    have hw1 : IntKind.i64.wrap ((k : Int) + 1) = (k : Int) + 1 := IntWalk.i64_in _ (by omega)
    by_cases hlt : k < n
    · have HO3 := Lib.hid (HO.out.alloc (.cells #[.string ⟨#[49]⟩] 22))
      have hlt5 : w.heap.size ≤ (wr.alloc (.cells #[.string ⟨#[49]⟩] 22)).heap.size := by have := HB.out.size; rw [World.size_alloc]; omega
      have HB3 := Lib.hid (HB.out.alloc HB.out.size (.cells #[.string ⟨#[49]⟩] 22))
      have HC1 := Lib.hid (show (wr.alloc (.cells #[.string ⟨#[49]⟩] 22)).cell? ⟨wr.heap.size, 0, none⟩ = some (.string ((fun _ => ⟨#[49]⟩ : Nat → ByteArray) k)) from cell_of_row _ _ _ _ _ _ (heap_alloc_new wr _))
      clear HO HB
      go_wp2_with (at_builtin; refine wp_addStr rfl _ _ rfl w.heap.size _ k (fun _ => ⟨#[49]⟩) rfl HO3.out wr.heap.size HC1.out rfl (by omega) hlt5 ?_; intro v6 W6 hO hB; have HO4 := Lib.hid hO; have HB4 := Lib.hid (HB3.out.trans hB); clear hO hB HO3 HB3 HC1)
      go_roundw
      case rel => exact ⟨k + 1, _, by omega, by simp, rfl, HO4, HB4⟩
      case measure => simp [intOf]; omega
    · obtain rfl : k = n := by omega
      obtain ⟨ma, mc, rfl, hmr, _, _, _, _⟩ := HO.out.rc
      rw [Nat.mul_one] at hmr
      go_wp2_with fail
      refine (HS.out _ _ _ (HG.out.below HB.out) hmr).mono ?_
      rintro _ w2 ⟨ya, m, cy, c, rfl, hΨ, hB⟩
      have HΨ := Lib.hid hΨ
      have HB2 := Lib.hid (HB.out.trans (hB.mono HB.out.size))
      clear hΨ hB hmr HO HB
      go_wp2_with fail
      go_ret2
      first
        | exact ⟨_, _, _, _, rfl, HΨ.out, HB2.out⟩
        | exact ⟨ya, m, cy, c, rfl, HΨ.out, HB2.out⟩

end Go.Proofs.YthhihdihkddakaaGreatDoor
