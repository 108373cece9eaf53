/- The value of a fraction's two strings, and the strings of a value: plain mathematics. -/
import Derived.Test.YtldohkfomdcpoaaDoorFrc
import Derived.Test.YtldohkfomdcpoaaDoorFrd
import Derived.Test.YtldohkfomdcpoaaDoorLaw
namespace Go.Proofs.YtldohkfomdcpoaaDoor
open Go.RowKit Fra

/-- numerator and denominator as they are, with a positive denominator -/
def rawP (n d : Int) : Int × Int := if d = 0 then (n, 1) else if d < 0 then (-n, -d) else (n, d)
def raw (n d : ByteArray) : Int × Int := rawP (vS n) (vS d)
theorem rawP_pos (n d : Int) : 0 < (rawP n d).2 := by
  unfold rawP
  split
  · exact Int.one_pos
  · split
    · show 0 < -d; omega
    · show 0 < d; omega
theorem raw_pos (n d : ByteArray) : 0 < (raw n d).2 := rawP_pos _ _
theorem rawP_redS {n d : Int} (h : d ≠ 0) : low (rawP n d) = redS n d := by
  unfold rawP low redS; rw [if_neg h]; split <;> rfl
theorem rawP_zero (n : Int) : rawP n 0 = (n, 1) := rfl
theorem rawP_of_pos {n d : Int} (h : 0 < d) : rawP n d = (n, d) := by unfold rawP; rw [if_neg (by omega), if_neg (by omega)]
theorem rawP_of_neg {n d : Int} (h : d < 0) : rawP n d = (-n, -d) := by unfold rawP; rw [if_neg (by omega), if_pos h]

/-- in lowest terms, with a positive denominator -/
def Low (p : Int × Int) : Prop := 0 < p.2 ∧ Int.gcd p.1 p.2 = 1
theorem Low.of_red {n d : Int} (h : 0 < d) : Low (red n d) := ⟨red_pos h, red_coprime h⟩
theorem Low.of_low {p : Int × Int} (h : 0 < p.2) : Low (low p) := Low.of_red h
theorem Low.of_redS {n d : Int} (h : d ≠ 0) : Low (redS n d) := ⟨redS_pos h, redS_coprime h⟩
theorem Low.of_addP {x y : Int × Int} (hx : 0 < x.2) (hy : 0 < y.2) : Low (addP x y) := Low.of_red (Int.mul_pos hx hy)
theorem Low.of_mulP {x y : Int × Int} (hx : 0 < x.2) (hy : 0 < y.2) : Low (mulP x y) := Low.of_red (Int.mul_pos hx hy)
theorem Low.of_negP {x : Int × Int} (hx : 0 < x.2) : Low (negP x) := Low.of_red hx
theorem Low.eq {p : Int × Int} (h : Low p) : low p = p := red_lowest h.2

/-- the canonical denominator -/
def cD (d : Int) : ByteArray := if d = 1 then ⟨#[]⟩ else cS d
/-- the canonical fraction of a pair in lowest terms -/
def fV (p : Int × Int) : Value := .agg #[.string (cS p.1), .string (cD p.2)]
theorem raw_can {p : Int × Int} (h : 0 < p.2) : raw (cS p.1) (cD p.2) = p := by
  unfold raw cD
  by_cases h1 : p.2 = 1
  · rw [if_pos h1, vS_cS, vS_nil, rawP_zero]; exact Prod.ext rfl h1.symm
  · rw [if_neg h1, vS_cS, vS_cS, rawP_of_pos h]
theorem cD_one : cD 1 = ⟨#[]⟩ := by unfold cD; rw [if_pos rfl]
theorem can_inj {p q : Int × Int} (hp : 0 < p.2) (hq : 0 < q.2) (h1 : cS p.1 = cS q.1) (h2 : cD p.2 = cD q.2) : p = q := by
  rw [← raw_can hp, ← raw_can hq, h1, h2]

/-! ### Digits -/
theorem Cap.one {k : Nat} (h : 1 ≤ k) : Cap k 1 := by
  unfold Cap
  have := Nat.pow_le_pow_right (show 0 < 10 by decide) h
  show 1 < 10 ^ k
  omega
def CapP (k : Nat) (p : Int × Int) : Prop := Cap k p.1 ∧ Cap k p.2
theorem CapP.mono {k l : Nat} {p : Int × Int} (h : CapP k p) (hkl : k ≤ l) : CapP l p := ⟨h.1.mono hkl, h.2.mono hkl⟩
theorem Cap.factor {k : Nat} {n r g : Int} (h : Cap k n) (hr : n = r * g) (hg : 0 < g) : Cap k r := by
  unfold Cap at *
  have : n.natAbs = r.natAbs * g.natAbs := by rw [hr, Int.natAbs_mul]
  have h2 : r.natAbs * 1 ≤ r.natAbs * g.natAbs := Nat.mul_le_mul_left _ (by omega)
  omega
theorem CapP.of_red {k : Nat} {n d : Int} (hd : 0 < d) (h1 : Cap k n) (h2 : Cap k d) : CapP k (red n d) :=
  ⟨h1.factor red_left (gcd_pos hd), h2.factor red_right (gcd_pos hd)⟩
theorem CapP.of_raw {k : Nat} {n d : ByteArray} (hk : 1 ≤ k) (h1 : n.size ≤ k) (h2 : d.size ≤ k) : CapP k (raw n d) := by
  have c1 : Cap k (vS n) := Cap.of h1 rfl
  have c2 : Cap k (vS d) := Cap.of h2 rfl
  unfold raw rawP
  split
  · exact ⟨c1, Cap.one hk⟩
  · split
    · exact ⟨c1.neg, c2.neg⟩
    · exact ⟨c1, c2⟩
theorem CapP.low {k : Nat} {x : Int × Int} (h : CapP k x) (hx : 0 < x.2) : CapP k (low x) := CapP.of_red hx h.1 h.2
theorem CapP.add {k l : Nat} {x y : Int × Int} (h : CapP k x) (g : CapP l y) (hx : 0 < x.2) (hy : 0 < y.2) : CapP (k + l + 1) (addP x y) := by
  refine CapP.of_red (Int.mul_pos hx hy) (Cap.add (h.1.mul g.2) ?_) ((h.2.mul g.2).mono (by omega))
  have := g.1.mul h.2
  rwa [Nat.add_comm] at this
theorem CapP.mul {k l : Nat} {x y : Int × Int} (h : CapP k x) (g : CapP l y) (hx : 0 < x.2) (hy : 0 < y.2) : CapP (k + l) (mulP x y) :=
  CapP.of_red (Int.mul_pos hx hy) (h.1.mul g.1) (h.2.mul g.2)
theorem CapP.neg {k : Nat} {x : Int × Int} (h : CapP k x) (hx : 0 < x.2) : CapP k (negP x) := CapP.of_red hx h.1.neg h.2
theorem CapP.redS {k : Nat} {n d : Int} (h1 : Cap k n) (h2 : Cap k d) (h0 : d ≠ 0) : CapP k (redS n d) := by
  unfold Fra.redS
  split
  · exact CapP.of_red (by omega) h1.neg h2.neg
  · exact CapP.of_red (by omega) h1 h2

/-- what a function is told of a fraction that it is handed -/
def Arg (n d : ByteArray) (x : Int × Int) : Prop := raw n d = x ∧ n.size ≤ 100000 ∧ d.size ≤ 100000
theorem Arg.pos {n d : ByteArray} {x : Int × Int} (h : Arg n d x) : 0 < x.2 := by rw [← h.1]; exact raw_pos _ _
theorem Arg.cap {n d : ByteArray} {x : Int × Int} (h : Arg n d x) : CapP 100000 x := by rw [← h.1]; exact CapP.of_raw (by decide) h.2.1 h.2.2
theorem cD_size {k : Nat} {z : Int} (h : Cap k z) : (cD z).size ≤ k + 1 := by
  unfold cD
  split
  · exact Nat.zero_le _
  · exact cS_size h
theorem Arg.of {k : Nat} {p : Int × Int} (h : CapP k p) (hp : 0 < p.2) (hk : k ≤ 99999) : Arg (cS p.1) (cD p.2) p :=
  ⟨raw_can hp, by have := cS_size h.1; omega, by have := cD_size h.2; omega⟩
theorem Arg.given {n d : ByteArray} {x : Int × Int} (h : raw n d = x) (h1 : n.size ≤ 60) (h2 : d.size ≤ 60) : Arg n d x := ⟨h, by omega, by omega⟩
theorem Arg.zero : Arg ⟨#[]⟩ ⟨#[]⟩ (0, 1) := ⟨by decide +kernel, by decide, by decide⟩

/-- the difference -/
def subP (x y : Int × Int) : Int × Int := red (x.1 * y.2 + -y.1 * x.2) (x.2 * y.2)
theorem subP_eq {x y : Int × Int} (hx : 0 < x.2) (hy : 0 < y.2) : subP x y = addP x (negP y) := by
  rw [addP_congr hx (negP_pos hy) (z := x) (w := (-y.1, y.2)) hx hy rfl (same_red _ _)]; rfl
theorem subP_zero (x : Int × Int) : subP (0, 1) x = negP x := by unfold subP negP; simp
/-- the quotient, by a value that is not 0 -/
def quoP (x y : Int × Int) : Int × Int := redS (x.1 * y.2) (x.2 * y.1)
/-- the answer of a comparison -/
def cmpS (x y : Int × Int) : Int := cmp3 (x.1 * y.2 + -y.1 * x.2) 0
theorem cmpS_eq (x y : Int × Int) : cmpS x y = cmpP x y := by
  unfold cmpS cmpP
  rw [cmp3_sub (x.1 * y.2) (y.1 * x.2), Int.neg_mul, ← Int.sub_eq_add_neg]

/-- returns this fraction, and nothing that was there has changed -/
def FPost (w : World) (p : Int × Int) (e : Ending) (w' : World) : Prop := e = .returned (.agg #[.string (cS p.1), .string (cD p.2)]) ∧ Below w.heap.size w w'
/-- returns two strings with these values -/
def RatPost (w : World) (p : Int × Int) (k : Nat) (e : Ending) (w' : World) : Prop :=
  ∃ a b, e = .returned (.agg #[.string a, .string b]) ∧ vS a = p.1 ∧ vS b = p.2 ∧ a.size ≤ k ∧ b.size ≤ k ∧ Below w.heap.size w w'

end Go.Proofs.YtldohkfomdcpoaaDoor
