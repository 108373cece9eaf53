/- The contracts of the program's functions of layer 2, by values; the laws' awake. -/
import Derived.Test.YtldohkfomdcpoaaDoorFlaw
namespace Go.Proofs.YtldohkfomdcpoaaDoor
open Go.RowKit Fra

/-- two strings with a value, of a size that every function bears -/
def Val (n d : ByteArray) (x : Int × Int) : Prop := raw n d = x ∧ n.size ≤ 99998 ∧ d.size ≤ 99998
theorem Val.pos {n d : ByteArray} {x : Int × Int} (h : Val n d x) : 0 < x.2 := by rw [← h.1]; exact raw_pos _ _
theorem Val.of {k : Nat} {p : Int × Int} (h : CapP k p) (hp : 0 < p.2) (hk : k ≤ 99997) : Val (cS p.1) (cD p.2) p :=
  ⟨raw_can hp, by have := cS_size h.1; omega, by have := cD_size h.2; omega⟩
theorem Val.zero : Val ⟨#[]⟩ ⟨#[]⟩ (0, 1) := ⟨raw_nil, by decide, by decide⟩
theorem CapP.zero {k : Nat} (h : 1 ≤ k) : CapP k (0, 1) := ⟨by unfold Cap; have := Nat.pow_pos (n := k) (show 0 < 10 by decide); exact this, Cap.one h⟩
theorem CapP.sub {k l : Nat} {x y : Int × Int} (h : CapP k x) (g : CapP l y) (hx : 0 < x.2) (hy : 0 < y.2) : CapP (k + l + 1) (subP x y) := by
  refine CapP.of_red (Int.mul_pos hx hy) (Cap.add (h.1.mul g.2) ?_) ((h.2.mul g.2).mono (by omega))
  have := g.1.neg.mul h.2
  rwa [Nat.add_comm] at this
theorem subP_pos {x y : Int × Int} (hx : 0 < x.2) (hy : 0 < y.2) : 0 < (subP x y).2 := red_pos (Int.mul_pos hx hy)
/-- a fraction that the law is given -/
structure Giv (k : Nat) (n d : ByteArray) (x : Int × Int) : Prop where
  eq : raw n d = x
  num : n.size ≤ k
  den : d.size ≤ k
theorem Giv.arg {k : Nat} {n d : ByteArray} {x : Int × Int} (h : Giv k n d x) (hk : k ≤ 99998) : Val n d x := ⟨h.eq, Nat.le_trans h.num hk, Nat.le_trans h.den hk⟩
theorem Giv.cap {k : Nat} {n d : ByteArray} {x : Int × Int} (h : Giv k n d x) (hk : 1 ≤ k) : CapP k x := by rw [← h.eq]; exact CapP.of_raw hk h.num h.den
theorem Giv.pos {k : Nat} {n d : ByteArray} {x : Int × Int} (h : Giv k n d x) : 0 < x.2 := by rw [← h.eq]; exact raw_pos _ _

theorem le_k {n : Nat} (h : n ≤ 99998) : n ≤ 100000 := by omega
section
variable {n d m e : ByteArray} {x y z : Int × Int} (w : World) (hG : Ground w)
include hG
theorem fAdd_v (h1 : Val n d x) (h2 : Val m e y) (hz : addP x y = z) : Calls Tryd.prog 11 #[.agg #[.string n, .string d], .agg #[.string m, .string e]] w (FPost w z) := by
  rw [← hz, ← h1.1, ← h2.1]; exact fAdd_any n d m e w hG (le_k h1.2.1) (le_k h1.2.2) (le_k h2.2.1) (le_k h2.2.2)
theorem fSub_v (h1 : Val n d x) (h2 : Val m e y) (hz : subP x y = z) : Calls Tryd.prog 13 #[.agg #[.string n, .string d], .agg #[.string m, .string e]] w (FPost w z) := by
  rw [← hz, ← h1.1, ← h2.1]; exact fSub_any n d m e w hG (le_k h1.2.1) (le_k h1.2.2) (le_k h2.2.1) (le_k h2.2.2)
theorem fMul_v (h1 : Val n d x) (h2 : Val m e y) (hz : mulP x y = z) : Calls Tryd.prog 12 #[.agg #[.string n, .string d], .agg #[.string m, .string e]] w (FPost w z) := by
  rw [← hz, ← h1.1, ← h2.1]; exact fMul_any n d m e w hG (le_k h1.2.1) (le_k h1.2.2) (le_k h2.2.1) (le_k h2.2.2)
theorem fNeg_v (h1 : Val n d x) (hz : negP x = z) : Calls Tryd.prog 14 #[.agg #[.string n, .string d]] w (FPost w z) := by
  rw [← hz, ← h1.1]; exact fNeg_any n d w hG (le_k h1.2.1) (le_k h1.2.2)
theorem fQuo_v (h1 : Val n d x) (h2 : Val m e y) (h0 : y.1 ≠ 0) (hz : quoP x y = z) : Calls Tryd.prog 15 #[.agg #[.string n, .string d], .agg #[.string m, .string e]] w fun r w' => r = .returned (.tuple #[.agg #[.string (cS z.1), .string (cD z.2)], .int .i64 0]) ∧ Below w.heap.size w w' := by
  rw [← hz, ← h1.1, ← h2.1]; exact fQuo_any n d m e w hG (le_k h1.2.1) (le_k h1.2.2) (le_k h2.2.1) (le_k h2.2.2) (by rw [h2.1]; exact h0)
theorem fQuo_z (h2 : Val m e y) (h0 : y.1 = 0) : Calls Tryd.prog 15 #[.agg #[.string n, .string d], .agg #[.string m, .string e]] w fun r w' => r = .returned (.tuple #[.agg #[.string ⟨#[]⟩, .string ⟨#[]⟩], .int .i64 10]) ∧ Below w.heap.size w w' :=
  fQuo_zero n d m e w hG (le_k h2.2.1) (by rw [h2.1]; exact h0)
theorem fCompare_v {c : Int} (h1 : Val n d x) (h2 : Val m e y) (hz : cmpP x y = c) : Calls Tryd.prog 16 #[.agg #[.string n, .string d], .agg #[.string m, .string e]] w fun r w' => r = .returned (.int .i64 c) ∧ Below w.heap.size w w' := by
  rw [← hz, ← h1.1, ← h2.1, ← cmpS_eq]; exact fCompare_any n d m e w hG (le_k h1.2.1) (le_k h1.2.2) (le_k h2.2.1) (le_k h2.2.2)
theorem fFloor_v {c : Int} (h1 : Val n d x) (hz : Int.fdiv x.1 x.2 = c) : Calls Tryd.prog 17 #[.agg #[.string n, .string d]] w (StrPost w c) := by
  rw [← hz, ← h1.1]; exact fFloor_any n d w hG (le_k h1.2.1) (le_k h1.2.2)
theorem fParts_v (h1 : Val n d x) (hz : low x = z) : Calls Tryd.prog 21 #[.agg #[.string n, .string d]] w fun r w' => r = .returned (.tuple #[.string (cS z.1), .string (cS z.2)]) ∧ Below w.heap.size w w' := by
  rw [← hz, ← h1.1]; exact fParts_any n d w hG (le_k h1.2.1) (le_k h1.2.2)
theorem fPrint_v (h1 : Val n d x) (hz : low x = z) : Calls Tryd.prog 29 #[.agg #[.string n, .string d]] w fun r w' => r = .returned (.string (textP z)) ∧ Below w.heap.size w w' := by
  rw [← hz, ← h1.1]; exact fPrint_any n d w hG (le_k h1.2.1) (le_k h1.2.2)
theorem fCheck_v (h1 : Val n d x) (hl : Low x) (hn : n = cS x.1) (hd : d = cD x.2) : Calls Tryd.prog 23 #[.agg #[.string n, .string d]] w fun r w' => r = .returned (.int .i64 0) ∧ Below w.heap.size w w' :=
  fCheck_ok n d w hG (le_k h1.2.1) (le_k h1.2.2) (by rw [h1.1, hl.eq]; exact ⟨hn.symm, hd.symm⟩)
theorem fNew_v {a b : ByteArray} {p q : Int} (ha : a.size ≤ 100000) (hb : b.size ≤ 100000) (h1 : vS a = p) (h2 : vS b = q) (h0 : q ≠ 0) (hz : redS p q = z) : Calls Tryd.prog 22 #[.string a, .string b] w fun e w' => e = .returned (.tuple #[.agg #[.string (cS z.1), .string (cD z.2)], .int .i64 0]) ∧ Below w.heap.size w w' := by
  rw [← hz, ← h1, ← h2]; exact fNew_any a b w hG ha hb (by rw [h2]; exact h0)
theorem fOf_v {a : ByteArray} {p : Int} (ha : a.size ≤ 100000) (h1 : vS a = p) : Calls Tryd.prog 18 #[.string a] w fun e w' => e = .returned (.agg #[.string (cS p), .string ⟨#[]⟩]) ∧ Below w.heap.size w w' := by
  rw [← h1]; exact fOf_any a w hG ha
theorem fPower_v {c : Int} (h1 : Val n d x) (hc1 : -400 ≤ c) (hc2 : c ≤ 400) (h0 : x.1 ≠ 0 ∨ 0 ≤ c) (hz : powP (low x) c = z) : Calls Tryd.prog 27 #[.agg #[.string n, .string d], .int .i64 c] w fun r w' => r = .returned (.tuple #[.agg #[.string (cS z.1), .string (cD z.2)], .int .i64 0]) ∧ Below w.heap.size w w' := by
  have hp := h1.pos
  by_cases hc : 0 ≤ c
  · obtain ⟨k, rfl⟩ : ∃ k : Nat, c = k := ⟨c.toNat, by omega⟩
    have := fPower_pos n d k w hG (le_k h1.2.1) (le_k h1.2.2) (by omega)
    rw [h1.1] at this
    rw [← hz, powP_nat (Low.of_low hp)]; exact this
  · obtain ⟨k, hk⟩ : ∃ k : Nat, c = -(k : Int) := ⟨(-c).toNat, by omega⟩
    have hx0 : x.1 ≠ 0 := h0.resolve_right hc
    have hl0 : (low x).1 ≠ 0 := by
      intro e
      have := low_cross x
      rw [e, Int.zero_mul] at this
      rcases Int.mul_eq_zero.1 this.symm with h | h
      · exact hx0 h
      · have := low_pos hp; omega
    have := fPower_neg n d k w hG h1.2.1 h1.2.2 (by omega) (by omega) (by rw [h1.1]; exact hx0)
    rw [h1.1] at this
    rw [← hz, hk, powP_neg hp Same.low hl0]; exact this
theorem fPower_z {c : Int} (h1 : Val n d x) (hc1 : -400 ≤ c) (hc2 : c < 0) (h0 : x.1 = 0) : Calls Tryd.prog 27 #[.agg #[.string n, .string d], .int .i64 c] w fun r w' => r = .returned (.tuple #[.agg #[.string ⟨#[]⟩, .string ⟨#[]⟩], .int .i64 10]) ∧ Below w.heap.size w w' := by
  obtain ⟨k, hk⟩ : ∃ k : Nat, c = -(k : Int) := ⟨(-c).toNat, by omega⟩
  rw [hk]
  exact fPower_neg_zero n d k w hG h1.2.1 (by omega) (by omega) (by rw [h1.1]; exact h0)

/-! ### The chapter's examples -/
theorem aw_half : Calls Tryd.prog 22 #[.string ⟨#[49]⟩, .string ⟨#[50]⟩] w fun e w' => e = .returned (.tuple #[.agg #[.string ⟨#[49]⟩, .string ⟨#[50]⟩], .int .i64 0]) ∧ Below w.heap.size w w' := by
  have := fNew_v (z := (1, 2)) w hG (a := ⟨#[49]⟩) (b := ⟨#[50]⟩) (p := 1) (q := 2) (by decide) (by decide) (by decide +kernel) (by decide +kernel) (by decide) (by decide +kernel)
  rwa [show cS (1, 2).1 = ⟨#[49]⟩ by decide +kernel, show cD (1, 2).2 = ⟨#[50]⟩ by decide +kernel] at this
theorem aw_third : Calls Tryd.prog 22 #[.string ⟨#[49]⟩, .string ⟨#[51]⟩] w fun e w' => e = .returned (.tuple #[.agg #[.string ⟨#[49]⟩, .string ⟨#[51]⟩], .int .i64 0]) ∧ Below w.heap.size w w' := by
  have := fNew_v (z := (1, 3)) w hG (a := ⟨#[49]⟩) (b := ⟨#[51]⟩) (p := 1) (q := 3) (by decide) (by decide) (by decide +kernel) (by decide +kernel) (by decide) (by decide +kernel)
  rwa [show cS (1, 3).1 = ⟨#[49]⟩ by decide +kernel, show cD (1, 3).2 = ⟨#[51]⟩ by decide +kernel] at this
theorem aw_power : Calls Tryd.prog 27 #[.agg #[.string ⟨#[45, 50]⟩, .string ⟨#[51]⟩], .int .i64 (-3)] w fun e w' => e = .returned (.tuple #[.agg #[.string ⟨#[45, 50, 55]⟩, .string ⟨#[56]⟩], .int .i64 0]) ∧ Below w.heap.size w w' := by
  have := fPower_v (x := (-2, 3)) (z := (-27, 8)) w hG (n := ⟨#[45, 50]⟩) (d := ⟨#[51]⟩) (c := -3) ⟨by decide +kernel, by decide, by decide⟩ (by decide) (by decide) (.inl (by decide)) (by decide +kernel)
  rwa [show cS (-27, 8).1 = ⟨#[45, 50, 55]⟩ by decide +kernel, show cD (-27, 8).2 = ⟨#[56]⟩ by decide +kernel] at this
theorem aw_add : Calls Tryd.prog 11 #[.agg #[.string ⟨#[49]⟩, .string ⟨#[50]⟩], .agg #[.string ⟨#[49]⟩, .string ⟨#[51]⟩]] w fun e w' => e = .returned (.agg #[.string ⟨#[53]⟩, .string ⟨#[54]⟩]) ∧ Below w.heap.size w w' := by
  have := fAdd_v (x := (1, 2)) (y := (1, 3)) (z := (5, 6)) w hG (n := ⟨#[49]⟩) (d := ⟨#[50]⟩) (m := ⟨#[49]⟩) (e := ⟨#[51]⟩) ⟨by decide +kernel, by decide, by decide⟩ ⟨by decide +kernel, by decide, by decide⟩ (by decide +kernel)
  unfold FPost at this
  rwa [show cS (5, 6).1 = ⟨#[53]⟩ by decide +kernel, show cD (5, 6).2 = ⟨#[54]⟩ by decide +kernel] at this
theorem aw_floor : Calls Tryd.prog 17 #[.agg #[.string ⟨#[45, 55]⟩, .string ⟨#[50]⟩]] w fun e w' => e = .returned (.string ⟨#[45, 52]⟩) ∧ Below w.heap.size w w' := by
  have := fFloor_v (x := (-7, 2)) (c := -4) w hG (n := ⟨#[45, 55]⟩) (d := ⟨#[50]⟩) ⟨by decide +kernel, by decide, by decide⟩ (by decide +kernel)
  unfold StrPost at this
  rwa [show cS (-4) = ⟨#[45, 52]⟩ by decide +kernel] at this
theorem aw_print : Calls Tryd.prog 29 #[.agg #[.string ⟨#[54]⟩, .string ⟨#[45, 52]⟩]] w fun e w' => e = .returned (.string ⟨#[45, 51, 47, 50]⟩) ∧ Below w.heap.size w w' := by
  have := fPrint_v (x := (-6, 4)) (z := (-3, 2)) w hG (n := ⟨#[54]⟩) (d := ⟨#[45, 52]⟩) ⟨by decide +kernel, by decide, by decide⟩ (by decide +kernel)
  rwa [show textP (-3, 2) = ⟨#[45, 51, 47, 50]⟩ by decide +kernel] at this
theorem aw_check : Calls Tryd.prog 23 #[.agg #[.string ⟨#[50]⟩, .string ⟨#[52]⟩]] w fun e w' => e = .returned (.int .i64 1) ∧ Below w.heap.size w w' :=
  fCheck_bad ⟨#[50]⟩ ⟨#[52]⟩ w hG (by decide) (by decide) (by decide +kernel)
end

end Go.Proofs.YtldohkfomdcpoaaDoor
