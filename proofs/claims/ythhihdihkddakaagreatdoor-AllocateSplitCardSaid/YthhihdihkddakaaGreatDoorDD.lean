/- The program's layer 3: read, Text, Scale, Format, Fraction, Parse: the walks. -/
import Derived.Test.YthhihdihkddakaaGreatDoorDB
import Derived.Test.YthhihdihkddakaaGreatDoorDC
namespace Go.Proofs.YthhihdihkddakaaGreatDoor
open Go.RowKit Fra

/-- the text ahead of the first point, and behind it -/
def befS (s : ByteArray) : ByteArray := ⟨(Num.bef s.data.toList).toArray⟩
def behS (s : ByteArray) : ByteArray := ⟨(Num.beh s.data.toList).toArray⟩
theorem befS_size (s : ByteArray) : (befS s).size + (behS s).size ≤ s.size := by
  have h := Num.beh_length s.data.toList
  rw [size_toList] at h
  rw [← size_toList (befS s), ← size_toList (behS s)]
  exact h
theorem behS_len (s : ByteArray) : (behS s).size = (Num.beh s.data.toList).length := by rw [← size_toList (behS s)]; rfl
theorem join_list (s : ByteArray) : (befS s ++ behS s).data.toList = Num.bef s.data.toList ++ Num.beh s.data.toList := by
  rw [ByteArray.data_append, Array.toList_append]; rfl
/-- the units that the program reads -/
def unitsS (s : ByteArray) : Int := Num.val (Num.bef s.data.toList ++ Num.beh s.data.toList)
theorem vS_join (s : ByteArray) : vS (befS s ++ behS s) = unitsS s := by unfold vS unitsS; rw [join_list]
theorem units_cap (s : ByteArray) : Cap s.size (unitsS s) := by
  have h := vS_lt (befS s ++ behS s)
  rw [vS_join] at h
  have h2 := befS_size s
  refine Cap.mono h ?_
  rw [ByteArray.size_append]
  exact h2
theorem digits_len {z : Int} {k : Nat} (h : Cap k z) : (Lib.decDigits z.natAbs).length ≤ k + 1 := by
  by_cases h0 : z.natAbs = 0
  · rw [h0, Num.decDigits_zero]
    show 1 ≤ k + 1
    omega
  · have e : Num.digs z.natAbs = Lib.decDigits z.natAbs := by unfold Num.digs; rw [if_neg h0]
    have h1 := cS_size (z := (z.natAbs : Int)) (k := k) (by unfold Cap at h; omega)
    have h2 : (cS (z.natAbs : Int)).data.toList = Num.digs z.natAbs := by
      unfold cS Num.canon
      rw [if_neg (by omega)]
      rfl
    rw [← size_toList, h2, e] at h1
    exact h1

/-- is it a decimal text? -/
def isDecS (s : ByteArray) : Bool := Num.isDec s.data.toList
def unitsD (s : ByteArray) : Int := Num.decU s.data.toList
def placesD (s : ByteArray) : Nat := Num.decP s.data.toList
/-- the text of units with places -/
def txt (z : Int) (p : Nat) : ByteArray := ⟨(Num.decT z p).toArray⟩
theorem good_text {s : ByteArray} (h : isDecS s = true) : txt (unitsS s) (behS s).size = s := by
  apply ByteArray.ext
  apply Array.toList_inj.1
  show Num.decT _ _ = _
  rw [behS_len]
  exact (Num.good_iff _).mpr h
theorem bad_text {s : ByteArray} (h : isDecS s = false) : txt (unitsS s) (behS s).size ≠ s := by
  intro e
  have e2 : Num.decT (unitsS s) (behS s).size = s.data.toList := congrArg (fun b : ByteArray => b.data.toList) e
  rw [behS_len] at e2
  have := (Num.good_iff _).mp e2
  unfold isDecS at h
  rw [this] at h
  simp at h
theorem unitsS_good {s : ByteArray} (h : isDecS s = true) : unitsS s = unitsD s := Num.val_units h
theorem behS_good (s : ByteArray) : (behS s).size = placesD s := by rw [behS_len, Num.beh_eq]; rfl

/-! ### Text, Scale, Format -/
theorem okP_iff {n : Int} : okP n = true ↔ 0 ≤ n ∧ n ≤ 12 := by unfold okP; exact decide_eq_true_iff
theorem tens_size (p : Nat) : (cS ((10 : Int) ^ p)).size ≤ p + 1 := by
  rw [cS_pow]
  show (49 :: List.replicate p (48 : UInt8)).toArray.size ≤ _
  simp
theorem tens_val {p : Nat} (hp : p ≤ 90000) : Val (cS ((10 : Int) ^ p)) ⟨#[]⟩ ((10 : Int) ^ p, 1) :=
  ⟨by unfold raw; rw [vS_cS, vS_nil]; rfl, by have := tens_size p; omega, by decide⟩
theorem tens_cap (p : Nat) : Cap (p + 1) ((10 : Int) ^ p) := by
  unfold Cap
  rw [Int.natAbs_pow]
  show 10 ^ p < 10 ^ (p + 1)
  exact Nat.pow_lt_pow_right (by decide) (by omega)
theorem tens_capP (p : Nat) : CapP (p + 1) ((10 : Int) ^ p, 1) := ⟨tens_cap p, Cap.one (by omega)⟩
/-- a number times a power of 10, as an argument -/
theorem scaled_val {x : Int × Int} {k : Nat} (hc : CapP k x) (hx : 0 < x.2) (hk : k ≤ 90000) (p : Nat) (hp : p ≤ 12) : Val (cS (mulP x ((10 : Int) ^ p, 1)).1) (cD (mulP x ((10 : Int) ^ p, 1)).2) (mulP x ((10 : Int) ^ p, 1)) :=
  Val.of (k := k + (p + 1)) (CapP.mul hc (tens_capP p) hx Int.one_pos) (mulP_pos (y := ((10 : Int) ^ p, 1)) hx Int.one_pos) (by omega)

/-- from whatever memory: the function returns this, and nothing that was there has changed -/
def Ret (f : FuncId) (args : Array Value) (v : Value) : Prop := ∀ W, Ground W → Calls Tryz.prog f args W fun r w' => r = .returned v ∧ Below W.heap.size W w'
theorem Ret.call {f : FuncId} {args : Array Value} {v : Value} (h : Ret f args v) (W : World) (hG : Ground W) : Calls Tryz.prog f args W fun r w' => r = .returned v ∧ Below W.heap.size W w' := h W hG
/-- a string and an error -/
abbrev two (u : ByteArray) (c : Int) : Value := .tuple #[.string u, .int .i64 c]

theorem round_ok {n d : ByteArray} {x : Int × Int} {m z : Int} (h : Val n d x) (h1 : 1 ≤ m) (h6 : m ≤ 6) (hz : rnd m x = z) : Ret 71 #[.agg #[.string n, .string d], .int .i64 m] (two (cS z) 0) :=
  fun W hG => dRound_v W hG h h1 h6 hz
theorem round_bad {n d : ByteArray} {x : Int × Int} {m : Int} (h : Val n d x) (hm : m < 1 ∨ 6 < m) : Ret 71 #[.agg #[.string n, .string d], .int .i64 m] (two ⟨#[]⟩ 7) :=
  fun W hG => dRound_none m W hG h hm
end Go.Proofs.YthhihdihkddakaaGreatDoor

/- The program's layer 3: Fraction, Parse: the walks. -/
namespace Go.Proofs.YthhihdihkddakaaGreatDoor
open Go.RowKit Fra

theorem Ret.of_same {f : FuncId} {args : Array Value} {v : Value} (h : ∀ W, Calls Tryz.prog f args W fun r w' => r = .returned v ∧ W = w') : Ret f args v :=
  fun W _ => (h W).mono fun _ _ k => ⟨k.1, k.2 ▸ Below.refl _ _⟩
/-- what read answers -/
abbrev three (u : ByteArray) (p c : Int) : Value := .tuple #[.string u, .int .i64 p, .int .i64 c]
theorem placesD_le (s : ByteArray) : placesD s ≤ s.size := by have h1 := behS_good s; have h2 := befS_size s; omega
theorem unitsD_cap {s : ByteArray} (hg : isDecS s = true) : Cap s.size (unitsD s) := by rw [← unitsS_good hg]; exact units_cap s

/-- a fraction and an error -/
abbrev fraE (u v : ByteArray) (c : Int) : Value := .tuple #[.agg #[.string u, .string v], .int .i64 c]

theorem redS_pow (u : Int) (p : Nat) : redS u ((10 : Int) ^ p) = low (u, (10 : Int) ^ p) := redS_red (Num.pow10 p)

/-! ### Parse -/
/-- what Parse reckons with -/
structure ParseAt (s : ByteArray) (p : Nat) (a b q r : Int) : Prop where
  ea : unitsD s * (10 : Int) ^ p = a
  eb : (10 : Int) ^ placesD s = b
  eq : Int.fdiv a b = q
  er : Int.fmod a b = r
  s1 : (cS (unitsD s)).size ≤ 4294967295
  s2 : (cS ((10 : Int) ^ p)).size ≤ 4294967295
  s3 : (cS a).size ≤ 4294967295
  s4 : (cS b).size ≤ 4294967295
  p1 : p ≤ 1000000
  p2 : placesD s ≤ 1000000
  b0 : b ≠ 0
theorem ParseAt.of {s : ByteArray} {p : Nat} (hs : s.size ≤ 65536) (hg : isDecS s = true) (hp : p ≤ 12) :
    ParseAt s p (unitsD s * (10 : Int) ^ p) ((10 : Int) ^ placesD s) (Int.fdiv (unitsD s * (10 : Int) ^ p) ((10 : Int) ^ placesD s)) (Int.fmod (unitsD s * (10 : Int) ^ p) ((10 : Int) ^ placesD s)) := by
  have h1 := placesD_le s
  have h2 := tens_size (placesD s)
  have h3 := tens_size p
  have h4 := unitsD_cap hg
  have h5 := cS_size h4
  have h6 := cS_size (Cap.mul h4 (tens_cap p))
  have h7 := Num.pow10 (placesD s)
  exact ⟨rfl, rfl, rfl, rfl, by omega, by omega, by omega, by omega, by omega, by omega, by omega⟩

end Go.Proofs.YthhihdihkddakaaGreatDoor

/- The program's layer 3: remove, Finite: the walks. -/
namespace Go.Proofs.YthhihdihkddakaaGreatDoor
open Go.RowKit Fra

theorem nat_fdiv (a b : Nat) : Int.fdiv (a : Int) (b : Int) = ((a / b : Nat) : Int) := by
  rw [Int.fdiv_eq_ediv_of_nonneg _ (by omega)]; rfl
theorem nat_fmod (a b : Nat) : Int.fmod (a : Int) (b : Int) = ((a % b : Nat) : Int) := by
  rw [Int.fmod_eq_emod_of_nonneg _ (by omega)]; rfl

/-- two numbers, of k digits and of twice as many -/
structure RemAt (k f d : Nat) : Prop where
  f2 : 2 ≤ f
  d0 : 0 < d
  cf : f < 10 ^ (k + k)
  cd : d < 10 ^ k
  k1 : k ≤ 200000
theorem RemAt.s1 {k f d : Nat} (h : RemAt k f d) : (cS (f : Int)).size ≤ 4294967295 := by
  have h1 := h.cf; have h2 := h.k1
  have := cS_size (z := (f : Int)) (k := k + k) (by omega)
  omega
theorem RemAt.s2 {k f d : Nat} (h : RemAt k f d) : (cS (d : Int)).size ≤ 4294967295 := by
  have h1 := h.cd; have h2 := h.k1
  have := cS_size (z := (d : Int)) (k := k) (by omega)
  omega
theorem RemAt.next {k f d : Nat} (h : RemAt k f d) (h0 : d % f = 0) : RemAt k (f * f) (d / f) := by
  have h2 := h.f2
  have hfd : f ≤ d := Nat.le_of_dvd h.d0 (Nat.dvd_of_mod_eq_zero h0)
  have hf : f < 10 ^ k := Nat.lt_of_le_of_lt hfd h.cd
  refine ⟨?_, Nat.div_pos hfd (by omega), ?_, Nat.lt_of_le_of_lt (Nat.div_le_self _ _) h.cd, h.k1⟩
  · have := Nat.mul_le_mul h2 h2; omega
  · rw [Nat.pow_add]; exact Nat.mul_lt_mul'' hf hf
theorem RemAt.rest {k f d : Nat} (h : RemAt k f d) : RemAt k f (Num.tm (f * f) d).2 :=
  ⟨h.f2, Num.tm_pos h.d0, h.cf, Nat.lt_of_le_of_lt (Num.tm_le (by have := Nat.mul_le_mul h.f2 h.f2; omega)) h.cd, h.k1⟩
theorem RemAt.few {k f d : Nat} (h : RemAt k f d) : (Num.tm f d).1 < 4 * 200000 := by
  have := Num.tm_few h.f2 h.d0 h.cd
  have := h.k1
  omega

def RemPost (w : World) (f d : Nat) (e : Ending) (w' : World) : Prop := e = .returned (.tuple #[.int .i64 ((Num.tm f d).1 : Nat), .string (cS ((Num.tm f d).2 : Nat))]) ∧ Below w.heap.size w w'

theorem RemAt.of {k f D : Nat} (h : Cap k (D : Int)) (h0 : 0 < D) (hf : 2 ≤ f) (hf9 : f ≤ 9) (h1 : 1 ≤ k) (hk : k ≤ 200000) : RemAt k f D := by
  refine ⟨hf, h0, ?_, by unfold Cap at h; omega, hk⟩
  have h2 : 10 ^ 1 ≤ 10 ^ (k + k) := Nat.pow_le_pow_right (by decide) (by omega)
  omega
/-! ### Finite -/
/-- the answer of Finite -/
def finV (x : Int × Int) : Value := match Num.fin (low x).2.toNat with
  | some p => .tuple #[.int .i64 (p : Nat), .bool true]
  | none => .tuple #[.int .i64 0, .bool false]

end Go.Proofs.YthhihdihkddakaaGreatDoor
