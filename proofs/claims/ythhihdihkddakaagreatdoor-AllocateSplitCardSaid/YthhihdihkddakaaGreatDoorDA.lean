/- The plain mathematics of rounding: by the number rounded down, and what is left over. -/
import Derived.Test.YthhihdihkddakaaGreatDoorMA
import Derived.Test.YthhihdihkddakaaGreatDoorPA
import Derived.Lib.TrimByte
import Derived.Lib.Bytealg
import Derived.Lib.Strings
import Derived.Lib.CutLaws
namespace Go.Proofs.YthhihdihkddakaaGreatDoor.Fra

/-- rounding, told by the number rounded down and the rest -/
def rndR (m q r d : Int) : Int :=
  if r = 0 then q else
  if (m = 1 ∧ (d < 2 * r ∨ (2 * r = d ∧ q % 2 = 1))) ∨ (m = 2 ∧ (d < 2 * r ∨ (2 * r = d ∧ 0 ≤ q))) ∨ (m = 3 ∧ q < 0) ∨ (m = 4 ∧ 0 ≤ q) ∨ m = 6 then q + 1 else q

def rest (x : Int × Int) : Int := x.1 - Int.fdiv x.1 x.2 * x.2
def rnd (m : Int) (x : Int × Int) : Int := rndR m (Int.fdiv x.1 x.2) (rest x) x.2

theorem rest_bounds {x : Int × Int} (hx : 0 < x.2) : 0 ≤ rest x ∧ rest x < x.2 := by
  obtain ⟨h1, h2⟩ := floor_bounds (n := x.1) hx
  rw [Int.add_mul] at h2
  unfold rest
  omega

/-- the number is below 0 exactly if it is so rounded down -/
theorem floor_sign {x : Int × Int} (hx : 0 < x.2) : x.1 < 0 ↔ Int.fdiv x.1 x.2 < 0 := by
  obtain ⟨h1, h2⟩ := floor_bounds (n := x.1) hx
  constructor
  · intro h
    have h3 : Int.fdiv x.1 x.2 * x.2 < 0 * x.2 := by omega
    exact Int.lt_of_mul_lt_mul_right h3 (by omega)
  · intro h
    have h3 : (Int.fdiv x.1 x.2 + 1) * x.2 ≤ 0 * x.2 := Int.mul_le_mul_of_nonneg_right (by omega) (by omega)
    omega

theorem rndR_scale {m q r d k : Int} (hk : 0 < k) : rndR m q (r * k) (d * k) = rndR m q r d := by
  have e0 : r * k = 0 ↔ r = 0 := ⟨fun h => (Int.mul_eq_zero.mp h).resolve_right (by omega), fun h => by rw [h, Int.zero_mul]⟩
  have e1 : d * k < 2 * (r * k) ↔ d < 2 * r := by
    rw [← Int.mul_assoc]
    exact ⟨fun h => Int.lt_of_mul_lt_mul_right h (by omega), fun h => Int.mul_lt_mul_of_pos_right h hk⟩
  have e2 : 2 * (r * k) = d * k ↔ 2 * r = d := by
    rw [← Int.mul_assoc]
    exact ⟨fun h => Int.eq_of_mul_eq_mul_right (by omega) h, fun h => by rw [h]⟩
  unfold rndR
  simp only [e0, e1, e2]

theorem rnd_congr {m : Int} {x y : Int × Int} (hx : 0 < x.2) (hy : 0 < y.2) (h : Same x y) : rnd m x = rnd m y := by
  have hq := floor_congr hx hy h
  have hr : rest x * y.2 = rest y * x.2 := by
    unfold rest Same at *
    rw [hq, Int.sub_mul, Int.sub_mul, h, Int.mul_right_comm (Int.fdiv y.1 y.2) x.2]
  unfold rnd
  rw [hq, ← rndR_scale (r := rest x) (k := y.2) hy, hr, Int.mul_comm x.2, rndR_scale hx]

theorem rnd_low {m : Int} {x : Int × Int} (hx : 0 < x.2) : rnd m (low x) = rnd m x := rnd_congr (low_pos hx) hx Same.low

theorem rnd_floor {x : Int × Int} : rnd 5 x = Int.fdiv x.1 x.2 := by
  unfold rnd rndR
  split
  · rfl
  · rw [if_neg (by omega)]

theorem rnd_of {m n d q r : Int} (hr : 0 ≤ r) (hd : r < d) (h : n = q * d + r) : rnd m (n, d) = rndR m q r d := by
  have hq : Int.fdiv n d = q := floor_unique (by omega) (by omega) (by rw [Int.add_mul]; omega)
  unfold rnd rest
  simp only [hq]
  rw [show n - q * d = r by omega]

theorem rnd_split (m : Int) {x : Int × Int} (hx : 0 < x.2) : ∃ q r : Int, 0 ≤ r ∧ r < x.2 ∧ x.1 = q * x.2 + r ∧ rnd m x = rndR m q r x.2 ∧ q = Int.fdiv x.1 x.2 := by
  obtain ⟨h1, h2⟩ := rest_bounds hx
  exact ⟨Int.fdiv x.1 x.2, rest x, h1, h2, by unfold rest; omega, rfl, rfl⟩

theorem rnd_whole (m n : Int) : rnd m (n, 1) = n := by
  rw [rnd_of (q := n) (r := 0) (by omega) (by omega) (by omega)]
  unfold rndR
  rw [if_pos rfl]

theorem rnd_exact {m n d : Int} (hd : 0 < d) : rnd m (n * d, d) = n := by
  rw [rnd_of (q := n) (r := 0) (by omega) (by omega) (by omega)]
  unfold rndR
  rw [if_pos rfl]

/-- the distance -/
theorem rnd_dist (m : Int) {x : Int × Int} (hx : 0 < x.2) : -x.2 < x.1 - rnd m x * x.2 ∧ x.1 - rnd m x * x.2 < x.2 ∧ (m = 1 ∨ m = 2 → -x.2 ≤ 2 * (x.1 - rnd m x * x.2) ∧ 2 * (x.1 - rnd m x * x.2) ≤ x.2) := by
  obtain ⟨q, r, h0, h1, h2, h3, _⟩ := rnd_split m hx
  rw [h3, h2]
  unfold rndR
  split
  · omega
  · split
    · rw [Int.add_mul]; omega
    · omega

theorem rnd_range (m : Int) {x : Int × Int} : rnd m x = Int.fdiv x.1 x.2 ∨ rnd m x = Int.fdiv x.1 x.2 + 1 := by
  unfold rnd rndR
  split
  · exact Or.inl rfl
  · split
    · exact Or.inr rfl
    · exact Or.inl rfl

theorem rnd_both (m : Int) {x : Int × Int} : rnd m x = rnd 5 x ∨ rnd m x = rnd 6 x := by
  unfold rnd rndR
  split
  · exact Or.inl rfl
  · split <;> split <;> split <;> omega

theorem rnd_enclose {x : Int × Int} (hx : 0 < x.2) : rnd 5 x * x.2 ≤ x.1 ∧ x.1 ≤ rnd 6 x * x.2 ∧ (rnd 5 x = rnd 6 x ∨ rnd 5 x + 1 = rnd 6 x) := by
  obtain ⟨q, r, h0, h1, h2, h3, h4⟩ := rnd_split 6 hx
  rw [rnd_floor, h3, ← h4, h2]
  unfold rndR
  split
  · omega
  · rw [if_pos (by omega), Int.add_mul]; omega

/-- towards 0, and away from it -/
theorem rnd_down_up {x : Int × Int} (hx : 0 < x.2) : (x.1 < 0 → rnd 3 x = rnd 6 x ∧ rnd 4 x = rnd 5 x) ∧ (¬ x.1 < 0 → rnd 3 x = rnd 5 x ∧ rnd 4 x = rnd 6 x) := by
  rw [floor_sign hx]
  unfold rnd rndR
  split <;> (try split) <;> (try split) <;> (try split) <;> (try split) <;> omega

/-- the opposite -/
def opp (m : Int) : Int := if m = 5 then 6 else if m = 6 then 5 else m
theorem rnd_neg {m : Int} {x : Int × Int} (hx : 0 < x.2) (hm : 1 ≤ m ∧ m ≤ 6) : rnd (opp m) (-x.1, x.2) = - rnd m x := by
  obtain ⟨q, r, h0, h1, h2, h3, _⟩ := rnd_split m hx
  rw [h3]
  by_cases hr : r = 0
  · rw [rnd_of (q := -q) (r := 0) (by omega) (by omega) (by rw [Int.neg_mul]; omega)]
    unfold rndR
    rw [if_pos rfl, if_pos hr]
  · rw [rnd_of (q := -q - 1) (r := x.2 - r) (by omega) (by omega) (by rw [Int.sub_mul, Int.neg_mul]; omega)]
    unfold rndR opp
    rw [if_neg (by omega), if_neg hr]
    split <;> split <;> (try split) <;> (try split) <;> omega

/-- the order -/
theorem rnd_mono_same {m n k d : Int} (hd : 0 < d) (h : n ≤ k) : rnd m (n, d) ≤ rnd m (k, d) := by
  obtain ⟨q, r, h0, h1, h2, h3, _⟩ := rnd_split m (x := (n, d)) hd
  obtain ⟨p, s, g0, g1, g2, g3, _⟩ := rnd_split m (x := (k, d)) hd
  simp only at *
  have hq : q < p + 1 := Int.lt_of_mul_lt_mul_right (a := d) (by rw [Int.add_mul]; omega) (by omega)
  rw [h3, g3]
  by_cases e : q = p
  · subst e
    have : r ≤ s := by omega
    unfold rndR
    split <;> split <;> (try split) <;> (try split) <;> omega
  · unfold rndR
    split <;> split <;> (try split) <;> (try split) <;> omega
theorem rnd_mono {m : Int} {x y : Int × Int} (hx : 0 < x.2) (hy : 0 < y.2) (h : cmpP x y ≤ 0) : rnd m x ≤ rnd m y := by
  have h1 := (cmp3_le _ _).mp h
  have hd := Int.mul_pos hx hy
  rw [rnd_congr (m := m) hx (y := (x.1 * y.2, x.2 * y.2)) hd (by unfold Same; simp only; rw [Int.mul_comm x.2, Int.mul_assoc])]
  rw [rnd_congr (m := m) hy (y := (y.1 * x.2, x.2 * y.2)) hd (by unfold Same; simp only; rw [Int.mul_assoc])]
  exact rnd_mono_same hd h1

/-- adding an integer before -/
theorem rnd_add {m a : Int} {x : Int × Int} (hx : 0 < x.2) (h : m = 5 ∨ m = 6 ∨ (a % 2 = 0 ∧ (m = 1 ∨ ((x.1 < 0 ↔ x.1 + a * x.2 < 0))))) : rnd m (x.1 + a * x.2, x.2) = rnd m x + a := by
  obtain ⟨q, r, h0, h1, h2, h3, h4⟩ := rnd_split m hx
  rw [rnd_of (q := q + a) (r := r) h0 h1 (by rw [h2, Int.add_mul]; omega), h3]
  have s1 := floor_sign hx
  have s2 := floor_sign (x := (x.1 + a * x.2, x.2)) hx
  simp only [floor_add x.1 a x.2 hx] at s2
  rw [← h4] at s1 s2
  rw [s1, s2] at h
  unfold rndR
  split
  · rfl
  · split <;> split <;> omega

/-- what the reference compares -/
theorem rest_same {x : Int × Int} : Same (addP x (negP (Int.fdiv x.1 x.2, 1))) (rest x, x.2) := by
  have e : negP (Int.fdiv x.1 x.2, 1) = (-Int.fdiv x.1 x.2, 1) := by
    unfold negP
    exact red_lowest (by simp)
  rw [e]
  unfold addP rest
  have := same_red (x.1 * 1 + -Int.fdiv x.1 x.2 * x.2) (x.2 * 1)
  simp only at *
  rw [show x.1 - Int.fdiv x.1 x.2 * x.2 = x.1 * 1 + -Int.fdiv x.1 x.2 * x.2 by rw [Int.neg_mul]; omega]
  rw [show (x.2 : Int) = x.2 * 1 by omega]
  simpa using this
theorem rest_cmp0 {x : Int × Int} (hx : 0 < x.2) : cmpP (addP x (negP (Int.fdiv x.1 x.2, 1))) (0, 1) = cmp3 (rest x) 0 := by
  rw [cmpP_congr (addP_pos hx (negP_pos (x := (_, 1)) Int.one_pos)) (by decide) (z := (rest x, x.2)) (w := (0, 1)) hx (by decide) rest_same rfl]
  unfold cmpP
  simp only [Int.mul_one, Int.zero_mul]
theorem rest_cmp2 {x : Int × Int} (hx : 0 < x.2) : cmpP (addP x (negP (Int.fdiv x.1 x.2, 1))) (1, 2) = cmp3 (2 * rest x) x.2 := by
  rw [cmpP_congr (addP_pos hx (negP_pos (x := (_, 1)) Int.one_pos)) (by decide) (z := (rest x, x.2)) (w := (1, 2)) hx (by decide) rest_same rfl]
  unfold cmpP
  simp only [Int.one_mul, Int.mul_comm (rest x)]

end Go.Proofs.YthhihdihkddakaaGreatDoor.Fra

/- The plain mathematics of decimal texts: their parts, their digits, the text of units with places. -/
namespace Go.Proofs.YthhihdihkddakaaGreatDoor.Num
open Lib (decDigits)

/-- exactly k digits of a number -/
def fixd : Nat → Nat → Bs
  | 0, _ => []
  | k + 1, m => fixd k (m / 10) ++ [UInt8.ofNat (48 + m % 10)]

theorem fixd_length : ∀ (k m : Nat), (fixd k m).length = k
  | 0, _ => rfl
  | k + 1, m => by rw [fixd, List.length_append, fixd_length k]; rfl
theorem fixd_all : ∀ (k m : Nat), (fixd k m).all isDig = true
  | 0, _ => rfl
  | k + 1, m => by rw [fixd, List.all_append, fixd_all k, List.all_cons, isDig_ofNat _ (Nat.mod_lt m (by decide : 0 < 10))]; rfl
theorem num_fixd : ∀ (k m : Nat), num (fixd k m) = m % 10 ^ k
  | 0, m => by rw [fixd, Nat.pow_zero, Nat.mod_one]; rfl
  | k + 1, m => by
    rw [fixd, num_snoc, num_fixd k, dv_ofNat _ (Nat.mod_lt m (by decide : 0 < 10)), Nat.pow_succ, Nat.mul_comm (10 ^ k) 10, Nat.mod_mul]
    omega
theorem ofNat_dv {c : UInt8} (h : isDig c = true) : UInt8.ofNat (48 + dv c) = c := by
  have h1 := (isDig_iff c).mp h
  unfold dv
  rw [show 48 + (c.toNat - 48) = c.toNat by omega]
  simp
theorem fixd_num (r : Bs) : r.reverse.all isDig = true → fixd r.length (num r.reverse) = r.reverse := by
  induction r with
  | nil => intro _; rfl
  | cons c r ih =>
    intro h
    rw [List.reverse_cons, List.all_append] at h
    simp only [Bool.and_eq_true] at h
    have hc : isDig c = true := by simpa using h.2
    have hd : dv c < 10 := by have := (isDig_iff c).mp hc; unfold dv; omega
    rw [List.reverse_cons, List.length_cons, fixd, num_snoc, show (10 * num r.reverse + dv c) / 10 = num r.reverse by omega, show (10 * num r.reverse + dv c) % 10 = dv c by omega, ih h.1, ofNat_dv hc]
theorem fixd_of_num {l : Bs} (h : l.all isDig = true) : fixd l.length (num l) = l := by
  have := fixd_num l.reverse
  rw [List.reverse_reverse, List.length_reverse] at this
  exact this h
theorem fixd_add (p : Nat) : ∀ (k m : Nat), fixd (p + k) m = fixd p (m / 10 ^ k) ++ fixd k m
  | 0, m => by rw [Nat.pow_zero, Nat.div_one, fixd, List.append_nil]; rfl
  | k + 1, m => by
    rw [← Nat.add_assoc, fixd, fixd_add p k, fixd, ← List.append_assoc, Nat.div_div_eq_div_mul, Nat.pow_succ, Nat.mul_comm 10]
theorem fixd_zero : ∀ k : Nat, fixd k 0 = List.replicate k 48
  | 0 => rfl
  | k + 1 => by rw [fixd, Nat.zero_div, fixd_zero k, List.replicate_succ']; rfl
theorem fixd_mod {k m : Nat} : fixd k (m % 10 ^ k) = fixd k m := by
  have h := fixd_of_num (fixd_all k m)
  rwa [fixd_length, num_fixd] at h
theorem fixd_shift (p k m : Nat) : fixd (p + k) (m * 10 ^ k) = fixd p m ++ List.replicate k 48 := by
  have h := fixd_mod (k := k) (m := m * 10 ^ k)
  rw [Nat.mul_mod_left] at h
  rw [fixd_add, Nat.mul_div_cancel _ (Nat.pow_pos (by decide)), ← h, fixd_zero]

/-- a whole part -/
def goodW (l : Bs) : Bool := !l.isEmpty && l.all isDig && (decide (l.length = 1) || decide (l.head? ≠ some 48))
theorem decDigits_zero : decDigits 0 = [48] := by decide +kernel
theorem goodW_digits (n : Nat) : goodW (decDigits n) = true := by
  unfold goodW
  rw [all_decDigits]
  have h1 := decDigits_ne n
  by_cases h : n = 0
  · subst h; rw [decDigits_zero]; rfl
  · have h2 := head_decDigits n h
    simp [h1, h2]
theorem digits_goodW {l : Bs} (h : goodW l = true) : decDigits (num l) = l := by
  unfold goodW at h
  simp only [Bool.and_eq_true, Bool.or_eq_true, decide_eq_true_eq, Bool.not_eq_true', List.isEmpty_eq_false_iff] at h
  obtain ⟨⟨h1, h2⟩, h3⟩ := h
  by_cases hd : l.head? = some 48
  · have hl := h3.resolve_right (fun k => k hd)
    match l, hl, hd with
    | [c], _, hd =>
      have : c = 48 := by simpa using hd
      subst this
      exact decDigits_zero
  · have hp : Plain l := ⟨h2, hd⟩
    have h4 := digs_num hp
    unfold digs at h4
    rwa [if_neg (by have := num_pos hp h1; omega)] at h4

/-- a text by its parts -/
def mk (ng : Bool) (W F : Bs) : Bs := (if ng then [45] else []) ++ (W ++ if F = [] then [] else 46 :: F)

/-- the text of z units with p places -/
def decT (z : Int) (p : Nat) : Bs := mk (decide (z < 0)) (decDigits (z.natAbs / 10 ^ p)) (fixd p z.natAbs)

/-- the parts of a text -/
def dotW (l : Bs) : Bs := (cut l).2.takeWhile (· != 46)
def dotT (l : Bs) : Bs := (cut l).2.dropWhile (· != 46)
def dotF (l : Bs) : Bs := (dotT l).tail
def decM (l : Bs) : Nat := num (dotW l ++ dotF l)
def isDec (l : Bs) : Bool := goodW (dotW l) && ((dotT l).isEmpty || (!(dotF l).isEmpty && (dotF l).all isDig)) && (!(cut l).1 || decide (decM l ≠ 0))
/-- the units of a text, with as many places as it has -/
def decU (l : Bs) : Int := if (cut l).1 then -(decM l : Int) else decM l
def decP (l : Bs) : Nat := (dotF l).length

theorem dig_ne_dot {c : UInt8} (h : isDig c = true) : (c != 46) = true := by
  have h1 := (isDig_iff c).mp h
  have : c ≠ 46 := by intro h2; subst h2; exact absurd h1.1 (by decide)
  simp [this]
theorem take_dot : ∀ {W t : Bs}, W.all isDig = true → (t = [] ∨ t.head? = some 46) → (W ++ t).takeWhile (· != 46) = W ∧ (W ++ t).dropWhile (· != 46) = t
  | [], t, _, h => by
    match t, h with
    | [], _ => exact ⟨rfl, rfl⟩
    | c :: t, h =>
      have : c = 46 := by simpa using h
      subst this
      exact ⟨by simp, by simp⟩
  | c :: W, t, hW, h => by
    rw [List.all_cons, Bool.and_eq_true] at hW
    obtain ⟨h1, h2⟩ := take_dot hW.2 h
    have hc := dig_ne_dot hW.1
    simp only [List.cons_append, List.takeWhile_cons, List.dropWhile_cons, hc, if_true, h1, h2, and_self]

theorem cut_eq (l : Bs) : l = (if (cut l).1 then [45] else []) ++ (cut l).2 := by
  unfold cut
  split
  · next h =>
    match l, h with
    | c :: l, h =>
      have : c = 45 := by simpa using h
      subst this
      rfl
  · rfl

theorem goodW_all {W : Bs} (h : goodW W = true) : W.all isDig = true ∧ W ≠ [] := by
  unfold goodW at h
  simp only [Bool.and_eq_true, Bool.not_eq_true', List.isEmpty_eq_false_iff] at h
  exact ⟨h.1.2, h.1.1⟩

/-- a decimal text is the text of its units with its places -/
theorem isDec_text {l : Bs} (h : isDec l = true) : l = decT (decU l) (decP l) := by
  unfold isDec at h
  simp only [Bool.and_eq_true, Bool.or_eq_true, Bool.not_eq_true', List.isEmpty_iff, List.isEmpty_eq_false_iff, decide_eq_true_eq] at h
  obtain ⟨⟨h1, h2⟩, h3⟩ := h
  have hF : (dotF l).all isDig = true := by
    rcases h2 with h2 | h2
    · unfold dotF; rw [h2]; rfl
    · exact h2.2
  have hlt := num_lt _ hF
  have hM : decM l = num (dotW l) * 10 ^ decP l + num (dotF l) := by unfold decM decP; rw [num_append]
  have hpos : 0 < 10 ^ decP l := Nat.pow_pos (by decide)
  have ha : (decU l).natAbs = decM l := by unfold decU; split <;> omega
  have hs : decide (decU l < 0) = (cut l).1 := by
    unfold decU
    cases hc : (cut l).1
    · simp
    · rw [hc] at h3
      have : decM l ≠ 0 := by simpa using h3
      simp only [if_true]
      rw [decide_eq_true_eq]
      omega
  have hq : decM l / 10 ^ decP l = num (dotW l) := by
    rw [hM, Nat.mul_comm, Nat.mul_add_div hpos, Nat.div_eq_of_lt (by exact hlt), Nat.add_zero]
  have hf : fixd (decP l) (decM l) = dotF l := by
    rw [← fixd_mod, hM, Nat.mul_comm, Nat.mul_add_mod, Nat.mod_eq_of_lt (by exact hlt)]
    exact fixd_of_num hF
  unfold decT mk
  rw [ha, hs, hq, hf, digits_goodW h1]
  have ht : dotT l = if dotF l = [] then [] else 46 :: dotF l := by
    rcases h2 with h2 | h2
    · rw [h2, if_pos (by unfold dotF; rw [h2]; rfl)]
    · rw [if_neg h2.1]
      have hne : dotT l ≠ [] := by intro k; apply h2.1; unfold dotF; rw [k]; rfl
      unfold dotF
      match e : dotT l, hne with
      | c :: t, _ =>
        have := List.head?_dropWhile_not (p := (· != 46)) (l := (cut l).2)
        unfold dotT at e
        rw [e] at this
        have hc : c = 46 := by simpa using this
        rw [hc]; rfl
  rw [← ht]
  unfold dotW dotT
  rw [List.takeWhile_append_dropWhile]
  exact cut_eq l

theorem cut_text (z : Int) (p : Nat) : cut (decT z p) = (decide (z < 0), decDigits (z.natAbs / 10 ^ p) ++ if fixd p z.natAbs = [] then [] else 46 :: fixd p z.natAbs) := by
  unfold decT mk
  cases decide (z < 0)
  · have h1 := goodW_all (goodW_digits (z.natAbs / 10 ^ p))
    match e : decDigits (z.natAbs / 10 ^ p), h1.2 with
    | c :: W, _ =>
      rw [e, List.all_cons, Bool.and_eq_true] at h1
      have := dig_ne_minus h1.1.1
      simp [cut, this]
  · rfl
theorem parts_text (z : Int) (p : Nat) : dotW (decT z p) = decDigits (z.natAbs / 10 ^ p) ∧ dotT (decT z p) = (if p = 0 then [] else 46 :: fixd p z.natAbs) := by
  unfold dotW dotT
  rw [cut_text]
  have h1 := take_dot (W := decDigits (z.natAbs / 10 ^ p)) (t := if fixd p z.natAbs = [] then [] else 46 :: fixd p z.natAbs) (all_decDigits _) (by split <;> simp)
  refine ⟨h1.1, h1.2.trans ?_⟩
  have : fixd p z.natAbs = [] ↔ p = 0 := by rw [← List.length_eq_zero_iff, fixd_length]
  simp only [this]
theorem dotF_text (z : Int) (p : Nat) : dotF (decT z p) = fixd p z.natAbs := by
  unfold dotF
  rw [(parts_text z p).2]
  split
  · next h => subst h; rfl
  · rfl
theorem decP_text (z : Int) (p : Nat) : decP (decT z p) = p := by unfold decP; rw [dotF_text, fixd_length]
theorem decM_text (z : Int) (p : Nat) : decM (decT z p) = z.natAbs := by
  unfold decM
  rw [dotF_text, (parts_text z p).1, num_append, num_decDigits, num_fixd, fixd_length, Nat.mul_comm]
  exact Nat.div_add_mod _ _
theorem decU_text (z : Int) (p : Nat) : decU (decT z p) = z := by
  unfold decU
  rw [decM_text, cut_text]
  simp only [decide_eq_true_eq]
  split <;> omega
theorem isDec_of_text (z : Int) (p : Nat) : isDec (decT z p) = true := by
  unfold isDec
  rw [decM_text, dotF_text, (parts_text z p).1, (parts_text z p).2, cut_text, goodW_digits, fixd_all]
  simp only [Bool.true_and, Bool.and_true, Bool.and_eq_true, Bool.or_eq_true, Bool.not_eq_true', decide_eq_true_eq, decide_eq_false_iff_not, List.isEmpty_iff, List.isEmpty_eq_false_iff]
  refine ⟨?_, by omega⟩
  by_cases h : p = 0
  · left; rw [if_pos h]
  · right
    intro k
    have := fixd_length p z.natAbs
    rw [k] at this
    exact h this.symm

/-- more places: zeros behind -/
theorem decT_more (z : Int) (p k : Nat) (hk : 0 < k) : decT (z * 10 ^ k) (p + k) = decT z p ++ ((if p = 0 then [46] else []) ++ List.replicate k 48) := by
  have hpos : (0 : Int) < 10 ^ k := Int.pow_pos (by decide)
  have hs : decide (z * 10 ^ k < 0) = decide (z < 0) := by
    rw [decide_eq_decide]
    constructor
    · intro h
      exact Int.lt_of_mul_lt_mul_right (a := 10 ^ k) (by omega) (by omega)
    · intro h
      have := Int.mul_lt_mul_of_pos_right h hpos
      omega
  have ha : (z * 10 ^ k).natAbs = z.natAbs * 10 ^ k := by
    rw [Int.natAbs_mul, Int.natAbs_pow]; rfl
  unfold decT mk
  rw [hs, ha, fixd_shift, Nat.pow_add, Nat.mul_div_mul_right _ _ (Nat.pow_pos (by decide))]
  have h1 : fixd p z.natAbs = [] ↔ p = 0 := by rw [← List.length_eq_zero_iff, fixd_length]
  have h2 : fixd p z.natAbs ++ List.replicate k (48 : UInt8) ≠ [] := by
    intro h
    have := congrArg List.length h
    simp at this
    omega
  rw [if_neg h2]
  by_cases hp : p = 0
  · rw [if_pos (h1.mpr hp), if_pos hp, h1.mpr hp]
    simp
  · rw [if_neg (fun k => hp (h1.mp k)), if_neg hp]
    simp [List.append_assoc]

end Go.Proofs.YthhihdihkddakaaGreatDoor.Num

/- The plain mathematics of decimal texts, further: zeros behind, padding, powers of 10, texts with one value. -/
namespace Go.Proofs.YthhihdihkddakaaGreatDoor.Num
open Go.Lib (decDigits)

theorem index_in (c : UInt8) : ∀ l : Bs, 0 ≤ Lib.indexByte l c ↔ c ∈ l
  | [] => by simp [Lib.indexByte]
  | b :: l => by
    have ih := index_in c l
    unfold Lib.indexByte
    by_cases h : b = c
    · subst h; simp
    · have h1 : (b == c) = false := by simpa using h
      have h2 : c ≠ b := fun k => h k.symm
      rw [h1]
      simp only [Bool.false_eq_true, if_false, List.mem_cons, h2, false_or, ← ih]
      by_cases h3 : Lib.indexByte l c = -1
      · simp [h3]
      · have h4 : (Lib.indexByte l c == -1) = false := by simpa using h3
        rw [h4]
        have h5 : -1 ≤ Lib.indexByte l c := by
          clear ih h4 h3
          induction l with
          | nil => exact Int.le_refl _
          | cons b l ih =>
            unfold Lib.indexByte
            split
            · decide
            · split
              · exact Int.le_refl _
              · omega
        simp only [Bool.false_eq_true, if_false]
        omega

theorem trimR_zeros (l : Bs) (k : Nat) : Lib.trimRightB (l ++ List.replicate k 48) 48 = Lib.trimRightB l 48 := by
  unfold Lib.trimRightB
  rw [List.reverse_append]
  simp
theorem trimR_dot (l : Bs) : Lib.trimRightB (l ++ [46]) 48 = l ++ [46] := by
  unfold Lib.trimRightB
  simp

/-- a text without zeros behind the point, and without a point that has nothing behind it -/
def trimT (l : Bs) : Bs := if 0 ≤ Lib.indexByte l 46 then Lib.trimSuffix (Lib.trimRightB l 48) [46] else l

theorem no_dot (z : Int) : 46 ∉ decT z 0 := by
  unfold decT mk fixd
  simp only [if_true, List.append_nil, List.mem_append, not_or]
  constructor
  · split <;> simp
  · intro h
    have h1 := all_decDigits (z.natAbs / 10 ^ 0)
    have h2 := dig_ne_dot (List.all_eq_true.mp h1 _ h)
    simp at h2
theorem has_dot (z : Int) (p : Nat) (h : 0 < p) : 46 ∈ decT z p := by
  have h1 : fixd p z.natAbs ≠ [] := by
    intro k
    have := fixd_length p z.natAbs
    rw [k] at this
    simp at this
    omega
  unfold decT mk
  rw [if_neg h1]
  simp

theorem trim_more (z : Int) (p k : Nat) : trimT (decT (z * 10 ^ k) (p + k)) = trimT (decT z p) := by
  by_cases hk : k = 0
  · subst hk; simp
  have hk' : 0 < k := by omega
  unfold trimT
  rw [if_pos ((index_in 46 _).mpr (has_dot _ _ (by omega))), decT_more z p k hk']
  by_cases hp : p = 0
  · subst hp
    rw [if_neg (fun h => no_dot z ((index_in 46 _).mp h)), if_pos rfl, ← List.append_assoc, trimR_zeros, trimR_dot]
    unfold Lib.trimSuffix Lib.hasSuffix
    rw [if_pos (by simp [List.isSuffixOf_iff_suffix])]
    simp
  · rw [if_pos ((index_in 46 _).mpr (has_dot _ _ (by omega))), if_neg hp, List.nil_append, trimR_zeros]

theorem pow10 (k : Nat) : (0 : Int) < 10 ^ k := Int.pow_pos (by decide)

/-- texts with one value are the same but for zeros behind -/
theorem trim_same {u n : Int} {b p : Nat} (h : u * 10 ^ p = n * 10 ^ b) : trimT (decT u b) = trimT (decT n p) := by
  by_cases hb : b ≤ p
  · obtain ⟨k, rfl⟩ : ∃ k, p = b + k := ⟨p - b, by omega⟩
    have : n = u * 10 ^ k := by
      apply Int.eq_of_mul_eq_mul_right (a := 10 ^ b) (by have := pow10 b; omega)
      rw [← h, Int.pow_add, Int.mul_assoc, Int.mul_comm (10 ^ k)]
    rw [this, trim_more]
  · obtain ⟨k, rfl⟩ : ∃ k, b = p + k := ⟨b - p, by omega⟩
    have : u = n * 10 ^ k := by
      apply Int.eq_of_mul_eq_mul_right (a := 10 ^ p) (by have := pow10 p; omega)
      rw [h, Int.pow_add, Int.mul_assoc, Int.mul_comm (10 ^ k)]
    rw [this, trim_more]

/-- digits, padded, are a whole part and the digits behind the point -/
theorem pad_split (m n : Nat) : List.replicate (n + 1 - (digs m).length) 48 ++ digs m = decDigits (m / 10 ^ n) ++ fixd n m := by
  have hp := Plain.digs m
  have hn := num_digs m
  have zn : ∀ k : Nat, num (List.replicate k 48) = 0 := fun k => by rw [← fixd_zero, num_fixd, Nat.zero_mod]
  by_cases hl : (digs m).length ≤ n
  · have hlt := num_lt _ hp.1
    rw [hn] at hlt
    have h1 : m < 10 ^ n := Nat.lt_of_lt_of_le hlt (Nat.pow_le_pow_right (by decide) hl)
    have hall : (List.replicate (n - (digs m).length) 48 ++ digs m).all isDig = true := by
      rw [List.all_append, hp.1, Bool.and_true, ← fixd_zero]
      exact fixd_all _ _
    have h2 := fixd_of_num hall
    rw [List.length_append, List.length_replicate, num_append, zn, hn, show n - (digs m).length + (digs m).length = n by omega] at h2
    rw [Nat.zero_mul, Nat.zero_add] at h2
    rw [h2, Nat.div_eq_of_lt h1, decDigits_zero, show n + 1 - (digs m).length = (n - (digs m).length) + 1 by omega, List.replicate_succ]
    rfl
  · rw [show n + 1 - (digs m).length = 0 by omega]
    rw [show List.replicate 0 (48 : UInt8) = [] from rfl, List.nil_append]
    have e := List.take_append_drop ((digs m).length - n) (digs m)
    have hF : ((digs m).drop ((digs m).length - n)).all isDig = true := by
      rw [List.all_eq_true]
      intro c hc
      exact List.all_eq_true.mp hp.1 c (List.mem_of_mem_drop hc)
    have hFl : ((digs m).drop ((digs m).length - n)).length = n := by rw [List.length_drop]; omega
    have hWg : goodW ((digs m).take ((digs m).length - n)) = true := by
      have hW : ((digs m).take ((digs m).length - n)).all isDig = true := by
        rw [List.all_eq_true]
        intro c hc
        exact List.all_eq_true.mp hp.1 c (List.mem_of_mem_take hc)
      have hh : ((digs m).take ((digs m).length - n)).head? = (digs m).head? := by
        rw [List.head?_take, if_neg (by omega)]
      have hne : (digs m).take ((digs m).length - n) ≠ [] := by
        intro k
        have := congrArg List.length k
        rw [List.length_take] at this
        simp only [List.length_nil] at this
        omega
      unfold goodW
      rw [hW, hh]
      simp [hne, hp.2]
    have hnum : num ((digs m).take ((digs m).length - n)) * 10 ^ n + num ((digs m).drop ((digs m).length - n)) = m := by
      have := num_append ((digs m).take ((digs m).length - n)) ((digs m).drop ((digs m).length - n))
      rw [e, hn, hFl] at this
      exact this.symm
    have hlt := num_lt _ hF
    rw [hFl] at hlt
    have hq : m / 10 ^ n = num ((digs m).take ((digs m).length - n)) := by
      conv => lhs; rw [← hnum]
      rw [Nat.mul_comm, Nat.mul_add_div (Nat.pow_pos (by decide)), Nat.div_eq_of_lt hlt, Nat.add_zero]
    have hr : fixd n m = (digs m).drop ((digs m).length - n) := by
      have h3 := fixd_of_num hF
      rw [hFl] at h3
      have h4 : m % 10 ^ n = num ((digs m).drop ((digs m).length - n)) := by
        conv => lhs; rw [← hnum]
        rw [Nat.mul_comm, Nat.mul_add_mod, Nat.mod_eq_of_lt hlt]
      rw [← fixd_mod, h4]
      exact h3
    rw [hq, digits_goodW hWg, hr, e]

/-- a power of 10, written -/
theorem digs_pow (k : Nat) : digs (10 ^ k) = 49 :: List.replicate k 48 := by
  have hall : (49 :: List.replicate k (48 : UInt8)).all isDig = true := by
    rw [List.all_cons, ← fixd_zero, fixd_all]
    rfl
  have h := digs_num (l := 49 :: List.replicate k 48) ⟨hall, by simp⟩
  have zn : num (List.replicate k 48) = 0 := by rw [← fixd_zero, num_fixd, Nat.zero_mod]
  rw [num_cons, zn, List.length_replicate, show dv 49 = 1 from rfl, Nat.one_mul, Nat.add_zero] at h
  exact h

end Go.Proofs.YthhihdihkddakaaGreatDoor.Num

/- The plain mathematics of finite numbers: which numbers divide a power of 10. It imports nothing of the program. -/
namespace Go.Proofs.YthhihdihkddakaaGreatDoor.Num

/-- how often k divides d, and what remains -/
def times (k : Nat) : Nat → Nat → Nat × Nat
  | 0, d => (0, d)
  | f + 1, d => if d % k = 0 then ((times k f (d / k)).1 + 1, (times k f (d / k)).2) else (0, d)

theorem times_eq (k : Nat) : ∀ (f d : Nat), d = k ^ (times k f d).1 * (times k f d).2
  | 0, d => by rw [times, Nat.pow_zero, Nat.one_mul]
  | f + 1, d => by
    rw [times]
    by_cases h : d % k = 0
    · rw [if_pos h]
      have ih := times_eq k f (d / k)
      rw [Nat.pow_succ, Nat.mul_comm (k ^ _) k, Nat.mul_assoc, ← ih, Nat.mul_div_cancel' (Nat.dvd_of_mod_eq_zero h)]
    · rw [if_neg h, Nat.pow_zero, Nat.one_mul]
theorem times_pos {k f d : Nat} (h : 0 < d) : 0 < (times k f d).2 := by
  have h1 := times_eq k f d
  apply Nat.pos_of_ne_zero
  intro h2
  rw [h2, Nat.mul_zero] at h1
  omega
theorem times_rest {k : Nat} (hk : 2 ≤ k) : ∀ {f d : Nat}, 0 < d → d ≤ f → (times k f d).2 % k ≠ 0
  | 0, d, h0, h => by omega
  | f + 1, d, h0, h => by
    rw [times]
    by_cases hd : d % k = 0
    · rw [if_pos hd]
      have h1 : k ≤ d := Nat.le_of_dvd h0 (Nat.dvd_of_mod_eq_zero hd)
      exact times_rest hk (Nat.div_pos h1 (by omega)) (by have := Nat.div_lt_self h0 (by omega : 1 < k); omega)
    · rw [if_neg hd]
      exact hd

theorem cop2 {r : Nat} (h : r % 2 ≠ 0) : Nat.Coprime r 2 := by
  have h1 : Nat.gcd r 2 ∣ 2 := Nat.gcd_dvd_right _ _
  have h2 : Nat.gcd r 2 ∣ r := Nat.gcd_dvd_left _ _
  have h3 := Nat.le_of_dvd (by decide) h1
  have h4 : 0 < Nat.gcd r 2 := Nat.gcd_pos_of_pos_right _ (by decide)
  unfold Nat.Coprime
  by_cases h5 : Nat.gcd r 2 = 2
  · rw [h5] at h2; omega
  · omega
theorem cop5 {r : Nat} (h : r % 5 ≠ 0) : Nat.Coprime r 5 := by
  have h1 : Nat.gcd r 5 ∣ 5 := Nat.gcd_dvd_right _ _
  have h2 : Nat.gcd r 5 ∣ r := Nat.gcd_dvd_left _ _
  have h3 := Nat.le_of_dvd (by decide) h1
  have h4 : 0 < Nat.gcd r 5 := Nat.gcd_pos_of_pos_right _ (by decide)
  unfold Nat.Coprime
  generalize Nat.gcd r 5 = g at *
  have : g = 1 ∨ g = 2 ∨ g = 3 ∨ g = 4 ∨ g = 5 := by omega
  rcases this with e | e | e | e | e <;> subst e <;> omega

theorem ten_pow (p : Nat) : 10 ^ p = 2 ^ p * 5 ^ p := by rw [← Nat.mul_pow]

theorem dvd_ten {a b p : Nat} : 2 ^ a * 5 ^ b ∣ 10 ^ p ↔ a ≤ p ∧ b ≤ p := by
  have c : Nat.Coprime 2 5 := by decide
  rw [ten_pow]
  constructor
  · intro h
    have h2 : 2 ^ a ∣ 2 ^ p * 5 ^ p := Nat.dvd_trans (Nat.dvd_mul_right _ _) h
    have h5 : 5 ^ b ∣ 2 ^ p * 5 ^ p := Nat.dvd_trans (Nat.dvd_mul_left _ _) h
    have g2 := Nat.Coprime.dvd_of_dvd_mul_right (Nat.Coprime.pow a p c) h2
    have g5 := Nat.Coprime.dvd_of_dvd_mul_left (Nat.Coprime.pow b p c.symm) h5
    exact ⟨(Nat.pow_dvd_pow_iff_le_right (by decide)).mp g2, (Nat.pow_dvd_pow_iff_le_right (by decide)).mp g5⟩
  · intro ⟨h1, h2⟩
    exact Nat.mul_dvd_mul (Nat.pow_dvd_pow 2 h1) (Nat.pow_dvd_pow 5 h2)

theorem other_ten {r p : Nat} (h2 : r % 2 ≠ 0) (h5 : r % 5 ≠ 0) (h : r ∣ 10 ^ p) : r = 1 := by
  have c : Nat.Coprime r (2 * 5) := Nat.Coprime.mul_right (cop2 h2) (cop5 h5)
  exact Nat.Coprime.eq_one_of_dvd (Nat.Coprime.pow_right p c) h

/-- the least number of places, if there is one -/
def fin (d : Nat) : Option Nat :=
  if (times 5 (times 2 d d).2 (times 2 d d).2).2 = 1 then some (max (times 2 d d).1 (times 5 (times 2 d d).2 (times 2 d d).2).1) else none

theorem fin_parts {d : Nat} (h : 0 < d) : ∃ a b r : Nat, d = 2 ^ a * 5 ^ b * r ∧ r % 2 ≠ 0 ∧ r % 5 ≠ 0 ∧ fin d = if r = 1 then some (max a b) else none := by
  have e1 := times_eq 2 d d
  have p1 := times_pos (k := 2) (f := d) h
  have r1 := times_rest (k := 2) (by decide) h (Nat.le_refl d)
  have e2 := times_eq 5 (times 2 d d).2 (times 2 d d).2
  have r2 := times_rest (k := 5) (by decide) p1 (Nat.le_refl _)
  refine ⟨_, _, _, by rw [Nat.mul_assoc, ← e2]; exact e1, ?_, r2, rfl⟩
  intro k
  apply r1
  rw [e2]
  exact Nat.mod_eq_zero_of_dvd (Nat.dvd_trans (Nat.dvd_of_mod_eq_zero k) (Nat.dvd_mul_left _ _))

theorem fin_some {d p : Nat} (h : 0 < d) (hf : fin d = some p) : ∀ q, d ∣ 10 ^ q ↔ p ≤ q := by
  obtain ⟨a, b, r, e, _, _, hr⟩ := fin_parts h
  rw [hr] at hf
  split at hf
  · next h1 =>
    have : max a b = p := Option.some.inj hf
    intro q
    rw [e, h1, Nat.mul_one, dvd_ten]
    omega
  · exact absurd hf (by simp)
theorem fin_none {d : Nat} (h : 0 < d) (hf : fin d = none) (q : Nat) : ¬ d ∣ 10 ^ q := by
  obtain ⟨a, b, r, e, h2, h5, hr⟩ := fin_parts h
  rw [hr] at hf
  intro hd
  have : r = 1 := other_ten h2 h5 (Nat.dvd_trans (by rw [e]; exact Nat.dvd_mul_left _ _) hd)
  rw [if_pos this] at hf
  exact absurd hf (by simp)
/-- whoever finds the least number of places finds this one -/
theorem fin_is {d p : Nat} (h : 0 < d) (hp : ∀ q, d ∣ 10 ^ q ↔ p ≤ q) : fin d = some p := by
  match e : fin d with
  | none => exact absurd ((hp p).mpr (Nat.le_refl p)) (fin_none h e p)
  | some k =>
    have h1 := fin_some h e
    have a := (h1 p).mp ((hp p).mpr (Nat.le_refl p))
    have b := (hp k).mp ((h1 k).mpr (Nat.le_refl k))
    rw [show k = p by omega]
theorem fin_is_not {d : Nat} (h : 0 < d) (hp : ∀ q, ¬ d ∣ 10 ^ q) : fin d = none := by
  match e : fin d with
  | none => rfl
  | some k => exact absurd ((fin_some h e k).mpr (Nat.le_refl k)) (hp k)
/-- the parts of a finite number's denominator decide -/
theorem fin_of {a b r : Nat} (h2 : r % 2 ≠ 0) (h5 : r % 5 ≠ 0) : fin (2 ^ a * 5 ^ b * r) = if r = 1 then some (max a b) else none := by
  have hr : 0 < r := by apply Nat.pos_of_ne_zero; intro k; subst k; exact h2 rfl
  have hd : 0 < 2 ^ a * 5 ^ b * r := Nat.mul_pos (Nat.mul_pos (Nat.pow_pos (by decide)) (Nat.pow_pos (by decide))) hr
  split
  · next h1 =>
    apply fin_is hd
    intro q
    rw [h1, Nat.mul_one, dvd_ten]
    omega
  · next h1 =>
    apply fin_is_not hd
    intro q hq
    exact h1 (other_ten h2 h5 (Nat.dvd_trans (Nat.dvd_mul_left _ _) hq))

end Go.Proofs.YthhihdihkddakaaGreatDoor.Num

/- The plain mathematics of layer 3's laws: rounding, units and finite numbers by values of fractions. -/
namespace Go.Proofs.YthhihdihkddakaaGreatDoor.Fra

theorem red_dvd {k d : Int} (hd : 0 < d) : red (k * d) d = (k, 1) := by
  rw [red_eq (m := k) (e := 1) hd (by decide) (by rw [Int.mul_one])]
  exact red_lowest (by simp)
theorem red_whole {n d : Int} (hd : 0 < d) : (red n d).2 = 1 ↔ d ∣ n := by
  constructor
  · intro h
    have := red_cross (n := n) (d := d)
    rw [h, Int.mul_one] at this
    exact ⟨(red n d).1, this.symm.trans (Int.mul_comm _ _)⟩
  · rintro ⟨k, rfl⟩
    rw [Int.mul_comm, red_dvd hd]
theorem red_is {n d k : Int} (hd : 0 < d) : red n d = (k, 1) ↔ n = k * d := by
  constructor
  · intro h
    have := red_cross (n := n) (d := d)
    rw [h, Int.mul_one] at this
    exact this.symm
  · intro h; rw [h, red_dvd hd]

/-- a number times an integer -/
theorem mulP_int {x : Int × Int} {t : Int} (hx : 0 < x.2) : mulP (low x) (t, 1) = red (x.1 * t) x.2 := by
  rw [mulP_congr (low_pos hx) (y := (t, 1)) Int.one_pos hx (w := (t, 1)) Int.one_pos Same.low rfl]
  unfold mulP
  rw [Int.mul_one]
theorem mulP_int' {x : Int × Int} {t : Int} : mulP x (t, 1) = red (x.1 * t) x.2 := by
  unfold mulP
  rw [Int.mul_one]

/-- the units of a text with b places, at p places -/
theorem units_is {u m : Int} {b p : Nat} : mulP (low (u, 10 ^ b)) (10 ^ p, 1) = (m, 1) ↔ u * 10 ^ p = m * 10 ^ b := by
  rw [mulP_int (Int.pow_pos (by decide)), red_is (Int.pow_pos (by decide))]
theorem units_some {u : Int} {b p : Nat} : (mulP (low (u, 10 ^ b)) (10 ^ p, 1)).2 = 1 ↔ ∃ m : Int, u * 10 ^ p = m * 10 ^ b := by
  rw [mulP_int (Int.pow_pos (by decide)), red_whole (Int.pow_pos (by decide))]
  constructor
  · rintro ⟨k, h⟩; exact ⟨k, by rw [h, Int.mul_comm]⟩
  · rintro ⟨k, h⟩; exact ⟨k, by rw [h, Int.mul_comm]⟩

/-- a number in lowest terms, times a power of 10, is an integer exactly if its denominator divides it -/
theorem finite_iff {x : Int × Int} (hx : Low x) (p : Nat) : (mulP x (10 ^ p, 1)).2 = 1 ↔ x.2.toNat ∣ 10 ^ p := by
  have h0 := hx.1
  rw [mulP_int', red_whole h0]
  have e : x.2 = (x.2.toNat : Int) := by omega
  have e10 : (10 : Int) ^ p = ((10 ^ p : Nat) : Int) := by rw [Int.natCast_pow]; rfl
  constructor
  · intro h
    have h1 := dvd_of_coprime hx.2 h
    rw [e, e10] at h1
    exact Int.ofNat_dvd.mp h1
  · intro h
    have h1 : x.2 ∣ 10 ^ p := by rw [e, e10]; exact Int.ofNat_dvd.mpr h
    exact Int.dvd_trans h1 (Int.dvd_mul_left _ _)
/-- the text of a finite number with its places has its value -/
theorem finite_value {x : Int × Int} (hx : Low x) {p : Nat} (m : Int) (h : x.2.toNat ∣ 10 ^ p) : low (rnd m (mulP x (10 ^ p, 1)), 10 ^ p) = x := by
  have h0 := hx.1
  have hp : (0 : Int) < 10 ^ p := Int.pow_pos (by decide)
  have h1 := (finite_iff hx p).mpr h
  have e : mulP x (10 ^ p, 1) = ((mulP x (10 ^ p, 1)).1, 1) := Prod.ext rfl h1
  have h2 := red_cross (n := x.1 * 10 ^ p) (d := x.2)
  rw [← mulP_int', h1, Int.mul_one] at h2
  rw [e, rnd_whole]
  exact (low_eq hp h0 (by unfold Same; exact h2)).trans hx.eq

/-- adding an integer, the opposite, up to terms -/
theorem addP_int {x : Int × Int} {n : Int} : Same (addP x (n, 1)) (x.1 + n * x.2, x.2) := by
  have := same_red (x.1 * 1 + n * x.2) (x.2 * 1)
  unfold addP
  simpa using this
theorem subP_int {x : Int × Int} {n : Int} : Same (subP x (n, 1)) (x.1 - n * x.2, x.2) := by
  have := same_red (x.1 * 1 + -n * x.2) (x.2 * 1)
  unfold subP
  rw [show x.1 - n * x.2 = x.1 * 1 + -n * x.2 by rw [Int.neg_mul]; omega]
  simpa using this
theorem subP_pos {x y : Int × Int} (hx : 0 < x.2) (hy : 0 < y.2) : 0 < (subP x y).2 := red_pos (Int.mul_pos hx hy)
theorem negP_same {x : Int × Int} : Same (negP x) (-x.1, x.2) := same_red _ _

theorem cmpP_low {x y : Int × Int} (hx : 0 < x.2) (hy : 0 < y.2) : cmpP (low x) y = cmpP x y :=
  cmpP_congr (low_pos hx) hy hx hy Same.low rfl

/-- the distance of a number that is rounded -/
theorem rnd_near (m : Int) {x : Int × Int} (hx : 0 < x.2) :
    cmpP (if cmpP (subP x (rnd m x, 1)) (0, 1) < 0 then negP (subP x (rnd m x, 1)) else subP x (rnd m x, 1)) (1, 1) < 0 ∧
    (m = 1 ∨ m = 2 → cmpP (if cmpP (subP x (rnd m x, 1)) (0, 1) < 0 then negP (subP x (rnd m x, 1)) else subP x (rnd m x, 1)) (1, 2) ≤ 0) := by
  have hs := subP_pos hx (y := (rnd m x, 1)) Int.one_pos
  have h1 := subP_int (x := x) (n := rnd m x)
  have h2 : Same (negP (subP x (rnd m x, 1))) (-(x.1 - rnd m x * x.2), x.2) := by
    have a := negP_same (x := subP x (rnd m x, 1))
    have b := h1
    unfold Same at a b ⊢
    simp only at a b ⊢
    apply Int.eq_of_mul_eq_mul_right (a := (subP x (rnd m x, 1)).2) (by omega)
    rw [Int.mul_right_comm, a, Int.neg_mul, Int.neg_mul, Int.mul_right_comm, b, Int.neg_mul, Int.neg_mul, Int.mul_right_comm]
  obtain ⟨d1, d2, d3⟩ := rnd_dist m hx
  have c0 : cmpP (subP x (rnd m x, 1)) (0, 1) = cmp3 (x.1 - rnd m x * x.2) 0 := by
    rw [cmpP_congr hs (by decide) (z := (x.1 - rnd m x * x.2, x.2)) (w := (0, 1)) hx (by decide) h1 rfl]
    unfold cmpP
    simp only [Int.mul_one, Int.zero_mul]
  have cs : ∀ k : Int, 0 < k → cmpP (subP x (rnd m x, 1)) (1, k) = cmp3 ((x.1 - rnd m x * x.2) * k) x.2 := fun k hk => by
    rw [cmpP_congr hs hk (z := (x.1 - rnd m x * x.2, x.2)) (w := (1, k)) hx hk h1 rfl]
    unfold cmpP
    simp only [Int.one_mul]
  have cn : ∀ k : Int, 0 < k → cmpP (negP (subP x (rnd m x, 1))) (1, k) = cmp3 (-(x.1 - rnd m x * x.2) * k) x.2 := fun k hk => by
    rw [cmpP_congr (negP_pos hs) hk (z := (-(x.1 - rnd m x * x.2), x.2)) (w := (1, k)) hx hk h2 rfl]
    unfold cmpP
    simp only [Int.one_mul]
  rw [c0]
  generalize x.1 - rnd m x * x.2 = t at *
  by_cases ht : t < 0
  · have e : cmp3 t 0 < 0 := by unfold cmp3; rw [if_pos ht]; decide
    rw [if_pos e, cn 1 (by decide), cn 2 (by decide)]
    constructor
    · unfold cmp3; rw [if_pos (by omega)]; decide
    · intro hm
      have := d3 hm
      exact (cmp3_le _ _).mpr (by omega)
  · have e : ¬ cmp3 t 0 < 0 := by unfold cmp3; rw [if_neg ht]; split <;> decide
    rw [if_neg e, cs 1 (by decide), cs 2 (by decide)]
    constructor
    · unfold cmp3; rw [if_pos (by omega)]; decide
    · intro hm
      have := d3 hm
      exact (cmp3_le _ _).mpr (by omega)

/-- an integer remains -/
theorem rnd_stays (m : Int) {x : Int × Int} (hx : 0 < x.2) (h : (low x).2 = 1) : cmpP x (rnd m x, 1) = 0 := by
  have e : low x = ((low x).1, 1) := Prod.ext rfl h
  have h1 : rnd m x = (low x).1 := by rw [← rnd_low hx, e, rnd_whole]
  rw [← cmpP_low hx (y := (rnd m x, 1)) Int.one_pos, h1]
  conv => lhs; rw [e]
  unfold cmpP
  exact (cmp3_zero _ _).mpr rfl

/-- the two that enclose -/
theorem rnd_low_le {x : Int × Int} (hx : 0 < x.2) : cmpP (rnd 5 x, 1) x ≤ 0 := by
  unfold cmpP
  rw [cmp3_le, Int.mul_one]
  exact (rnd_enclose hx).1
theorem rnd_le_high {x : Int × Int} (hx : 0 < x.2) : cmpP x (rnd 6 x, 1) ≤ 0 := by
  unfold cmpP
  rw [cmp3_le, Int.mul_one]
  exact (rnd_enclose hx).2.1
theorem rnd_opp {m : Int} {x : Int × Int} (hx : 0 < x.2) (hm : 1 ≤ m ∧ m ≤ 6) : rnd (opp m) (negP x) = - rnd m x := by
  rw [rnd_congr (y := (-x.1, x.2)) (negP_pos hx) hx negP_same]
  exact rnd_neg hx hm
theorem cmpP_zero {x : Int × Int} : cmpP x (0, 1) < 0 ↔ x.1 < 0 := by
  unfold cmpP cmp3
  simp only [Int.mul_one, Int.zero_mul]
  split
  · simp [*]
  · split <;> simp [*]

/-- the order -/
theorem rnd_mono' {m : Int} {x y : Int × Int} (hx : 0 < x.2) (hy : 0 < y.2) (h : 0 ≤ cmpP x y) : rnd m y ≤ rnd m x :=
  rnd_mono hy hx (by rw [cmpP_swap]; omega)
theorem sum_sign {x : Int × Int} {n : Int} (hx : 0 < x.2) : cmpP (addP x (n, 1)) (0, 1) < 0 ↔ x.1 + n * x.2 < 0 := by
  rw [cmpP_congr (addP_pos hx (y := (n, 1)) Int.one_pos) (by decide) (z := (x.1 + n * x.2, x.2)) (w := (0, 1)) hx (by decide) addP_int rfl]
  exact cmpP_zero
theorem rnd_sum {m n : Int} {x : Int × Int} (hx : 0 < x.2) (h : m = 5 ∨ m = 6 ∨ (n % 2 = 0 ∧ (m = 1 ∨ (cmpP x (0, 1) < 0 ↔ cmpP (addP x (n, 1)) (0, 1) < 0)))) : rnd m (addP x (n, 1)) = rnd m x + n := by
  rw [rnd_congr (y := (x.1 + n * x.2, x.2)) (addP_pos hx (y := (n, 1)) Int.one_pos) hx addP_int]
  rw [sum_sign hx, cmpP_zero] at h
  exact rnd_add hx h

end Go.Proofs.YthhihdihkddakaaGreatDoor.Fra

/- The plain mathematics of layer 3's program and its reference: what Cut leaves, how a text is put together, the modes, repeated division. -/
namespace Go.Proofs.YthhihdihkddakaaGreatDoor.Num
open Go.Lib (decDigits)

/-- ahead of the first point, and behind it -/
def bef (l : Bs) : Bs := l.takeWhile (· != 46)
def beh (l : Bs) : Bs := (l.dropWhile (· != 46)).tail

theorem bef_eq (l : Bs) : bef l = (if (cut l).1 then [45] else []) ++ dotW l := by
  conv => lhs; rw [cut_eq l]
  unfold bef dotW
  cases (cut l).1
  · simp
  · simp
theorem beh_eq (l : Bs) : beh l = dotF l := by
  conv => lhs; rw [cut_eq l]
  unfold beh dotF dotT
  cases (cut l).1
  · simp
  · simp

theorem num_strip (l : Bs) : num (strip l) = num l := by
  unfold strip
  induction l with
  | nil => rfl
  | cons c r ih =>
    by_cases h : c = 48
    · subst h
      rw [List.dropWhile_cons_of_pos (by rfl), ih, num_cons, show dv 48 = 0 from rfl, Nat.zero_mul, Nat.zero_add]
    · rw [List.dropWhile_cons_of_neg (by simpa using h)]
theorem val_digits {D : Bs} (h : D.all isDig = true) : val D = num D := by
  have hc := cut_of_plain h
  unfold val sneg mag sdig
  rw [hc]
  simp only [h, if_true, num_strip, Bool.false_and, Bool.false_eq_true, if_false]
theorem val_minus {D : Bs} (h : D.all isDig = true) : val (45 :: D) = -(num D : Int) := by
  unfold val sneg mag sdig
  rw [cut_minus]
  simp only [h, if_true, num_strip, Bool.true_and]
  by_cases e : strip D = []
  · have : num D = 0 := by rw [← num_strip, e]; rfl
    simp [e, this]
  · simp [e]

theorem isDec_digits {l : Bs} (h : isDec l = true) : (dotW l ++ dotF l).all isDig = true := by
  unfold isDec at h
  simp only [Bool.and_eq_true, Bool.or_eq_true, Bool.not_eq_true', List.isEmpty_iff, List.isEmpty_eq_false_iff, decide_eq_true_eq] at h
  obtain ⟨⟨h1, h2⟩, h3⟩ := h
  have hF : (dotF l).all isDig = true := by
    rcases h2 with h2 | h2
    · unfold dotF; rw [h2]; rfl
    · exact h2.2
  rw [List.all_append, (goodW_all h1).1, hF]; rfl
/-- the units of a decimal text, as the program reads them -/
theorem val_units {l : Bs} (h : isDec l = true) : val (bef l ++ beh l) = decU l := by
  have hD := isDec_digits h
  rw [bef_eq, beh_eq]
  unfold decU decM
  cases (cut l).1
  · simp only [Bool.false_eq_true, if_false, List.nil_append]
    exact val_digits hD
  · simp only [if_true, List.cons_append, List.nil_append]
    exact val_minus hD
/-- the text that the program compares is the text itself exactly if it is a decimal text -/
theorem good_iff (l : Bs) : decT (val (bef l ++ beh l)) (beh l).length = l ↔ isDec l = true := by
  constructor
  · intro h; rw [← h]; exact isDec_of_text _ _
  · intro h; rw [val_units h, beh_eq]; exact (isDec_text h).symm

/-! ### Where the first point stands -/
def dot (l : Bs) : Nat := (l.takeWhile (· != 46)).length
theorem dot_le (l : Bs) : dot l ≤ l.length := (List.takeWhile_sublist _).length_le
theorem take_bef (l : Bs) : l.take (dot l) = bef l := by
  have h := List.take_left (l₁ := l.takeWhile (· != 46)) (l₂ := l.dropWhile (· != 46))
  rwa [List.takeWhile_append_dropWhile] at h
theorem drop_beh (l : Bs) : l.drop (dot l + 1) = beh l := by
  have h := List.drop_left (l₁ := l.takeWhile (· != 46)) (l₂ := l.dropWhile (· != 46))
  rw [List.takeWhile_append_dropWhile] at h
  rw [← List.drop_drop, show l.drop (dot l) = l.dropWhile (· != 46) from h, List.drop_one]
  rfl
theorem index_dot : ∀ l : Bs, Lib.index l [46] = if dot l < l.length then (dot l : Int) else -1
  | [] => by simp [Lib.index, dot]
  | b :: l => by
    have ih := index_dot l
    by_cases h : b = 46
    · subst h; simp [Lib.index, dot, List.isPrefixOf]
    · have e : dot (b :: l) = dot l + 1 := by simp [dot, h]
      have hp : List.isPrefixOf [46] (b :: l) = false := by simp [List.isPrefixOf]; exact fun e => h e.symm
      rw [Lib.index, hp, ih, e]
      by_cases h2 : dot l < l.length
      · have : ¬ ((dot l : Int) == -1) = true := by simp
        simp [h2, this]
      · simp [h2]
theorem cut_dot (l : Bs) : (Lib.cut l [46]).1 = bef l ∧ (Lib.cut l [46]).2.1 = beh l ∧ (Lib.cut l [46]).2.2 = decide (dot l < l.length) := by
  rw [← take_bef, ← drop_beh]
  unfold Lib.cut
  rw [index_dot]
  by_cases h : dot l < l.length
  · rw [if_pos h, if_pos (by omega)]; simp [h]
  · have hl : dot l = l.length := by have := dot_le l; omega
    rw [if_neg h, if_neg (by omega), hl]; simp
theorem bef_length (l : Bs) : (bef l).length = dot l := rfl
theorem beh_length (l : Bs) : (bef l).length + (beh l).length ≤ l.length := by
  rw [bef_length, ← drop_beh, List.length_drop]
  have := dot_le l
  omega

/-! ### How a text is put together -/
theorem pad_print (m n : Nat) : List.replicate (n + 1 - (decDigits m).length) 48 ++ decDigits m = decDigits (m / 10 ^ n) ++ fixd n m := by
  have h := pad_split m n
  by_cases hm : m = 0
  · subst hm
    rw [← h, decDigits_zero, show digs 0 = [] from rfl, List.append_nil]
    show List.replicate (n + 1 - 1) 48 ++ [48] = List.replicate (n + 1 - 0) 48
    rw [Nat.add_sub_cancel, Nat.sub_zero, List.replicate_succ']
  · have e : digs m = decDigits m := by unfold digs; rw [if_neg hm]
    rwa [e] at h
/-- the digits, padded, at the point -/
theorem at_point (m n : Nat) : (decDigits (m / 10 ^ n) ++ fixd n m).length - n = (decDigits (m / 10 ^ n)).length ∧ n < (decDigits (m / 10 ^ n) ++ fixd n m).length := by
  have h0 : 0 < (decDigits (m / 10 ^ n)).length := List.length_pos_iff.mpr (decDigits_ne _)
  rw [List.length_append, fixd_length]
  omega
theorem decT_list (z : Int) (p : Nat) : decT z p = (if z < 0 then [45] else []) ++ (decDigits (z.natAbs / 10 ^ p) ++ if p = 0 then [] else 46 :: fixd p z.natAbs) := by
  have h : fixd p z.natAbs = [] ↔ p = 0 := by rw [← List.length_eq_zero_iff, fixd_length]
  unfold decT mk
  simp only [h, decide_eq_true_eq]
theorem cut_itoa (z : Int) : cut (Lib.itoa z) = (decide (z < 0), decDigits z.natAbs) := by
  unfold Lib.itoa
  by_cases h : z < 0
  · rw [if_pos h, decide_eq_true h]; rfl
  · rw [if_neg h, decide_eq_false h, show z.toNat = z.natAbs by omega, cut_of_plain (all_decDigits _)]

/-! ### Repeated division -/
theorem times_unique {k : Nat} (hk : 2 ≤ k) : ∀ {f d a b : Nat}, 0 < d → d ≤ f → d = k ^ a * b → b % k ≠ 0 → times k f d = (a, b)
  | 0, d, _, _, h0, h, _, _ => by omega
  | f + 1, d, 0, b, h0, h, e, hb => by
    rw [Nat.pow_zero, Nat.one_mul] at e
    subst e
    rw [times, if_neg hb]
  | f + 1, d, a + 1, b, h0, h, e, hb => by
    have e1 : d = k * (k ^ a * b) := by rw [e, Nat.pow_succ, Nat.mul_comm (k ^ a) k, Nat.mul_assoc]
    have hq : d / k = k ^ a * b := by rw [e1, Nat.mul_div_cancel_left _ (by omega)]
    have hm : d % k = 0 := by rw [e1, Nat.mul_mod_right]
    have hpos : 0 < d / k := Nat.div_pos (Nat.le_of_dvd h0 (Nat.dvd_of_mod_eq_zero hm)) (by omega)
    have hlt := Nat.div_lt_self h0 (show 1 < k by omega)
    rw [times, if_pos hm, times_unique hk hpos (by omega) hq hb]
/-- how often k divides d, and what remains -/
def tm (k d : Nat) : Nat × Nat := times k d d
theorem tm_eq (k d : Nat) : d = k ^ (tm k d).1 * (tm k d).2 := times_eq k d d
theorem tm_rest {k d : Nat} (hk : 2 ≤ k) (hd : 0 < d) : (tm k d).2 % k ≠ 0 := times_rest hk hd (Nat.le_refl d)
theorem tm_pos {k d : Nat} (hd : 0 < d) : 0 < (tm k d).2 := times_pos hd
theorem tm_le {k d : Nat} (hk : 2 ≤ k) : (tm k d).2 ≤ d := by
  have h := tm_eq k d
  have hp : 0 < k ^ (tm k d).1 := Nat.pow_pos (by omega)
  have h2 := Nat.le_mul_of_pos_left (tm k d).2 hp
  omega
theorem tm_unique {k d a b : Nat} (hk : 2 ≤ k) (hd : 0 < d) (h : d = k ^ a * b) (hb : b % k ≠ 0) : tm k d = (a, b) := times_unique hk hd (Nat.le_refl d) h hb
theorem tm_none {k d : Nat} (hk : 2 ≤ k) (hd : 0 < d) (h : d % k ≠ 0) : tm k d = (0, d) := tm_unique hk hd (by simp) h
theorem tm_step {k d : Nat} (hk : 2 ≤ k) (hd : 0 < d) (h : d % k = 0) : tm k d = ((tm k (d / k)).1 + 1, (tm k (d / k)).2) := by
  have hq : 0 < d / k := Nat.div_pos (Nat.le_of_dvd hd (Nat.dvd_of_mod_eq_zero h)) (by omega)
  refine tm_unique hk hd ?_ (tm_rest hk hq)
  rw [Nat.pow_succ, Nat.mul_comm (k ^ _) k, Nat.mul_assoc, ← tm_eq, Nat.mul_div_cancel' (Nat.dvd_of_mod_eq_zero h)]
/-- by squares first -/
theorem tm_square {k d : Nat} (hk : 2 ≤ k) (hd : 0 < d) (h : d % k = 0) :
    ((tm (k * k) (d / k)).2 % k = 0 → tm k d = (2 * (tm (k * k) (d / k)).1 + 2, (tm (k * k) (d / k)).2 / k)) ∧
    ((tm (k * k) (d / k)).2 % k ≠ 0 → tm k d = (2 * (tm (k * k) (d / k)).1 + 1, (tm (k * k) (d / k)).2)) := by
  have hq : 0 < d / k := Nat.div_pos (Nat.le_of_dvd hd (Nat.dvd_of_mod_eq_zero h)) (by omega)
  have hkk : 2 ≤ k * k := by have := Nat.mul_le_mul hk hk; omega
  have e := tm_eq (k * k) (d / k)
  have hr := tm_rest hkk hq
  generalize (tm (k * k) (d / k)).1 = p at *
  generalize (tm (k * k) (d / k)).2 = l at *
  have e1 : d = k ^ (2 * p + 1) * l := by
    have : d = k * (d / k) := (Nat.mul_div_cancel' (Nat.dvd_of_mod_eq_zero h)).symm
    rw [this, e, Nat.pow_succ, Nat.pow_mul, show k ^ 2 = k * k by rw [Nat.pow_succ, Nat.pow_one], Nat.mul_comm ((k * k) ^ p) k, Nat.mul_assoc]
  constructor
  · intro hl
    refine tm_unique hk hd ?_ ?_
    · rw [e1]
      conv => lhs; rw [← Nat.mul_div_cancel' (Nat.dvd_of_mod_eq_zero hl)]
      rw [← Nat.mul_assoc, ← Nat.pow_succ]
    · intro h2
      apply hr
      have h3 : k * k ∣ l := by
        obtain ⟨c, hc⟩ := Nat.dvd_of_mod_eq_zero h2
        exact ⟨c, by rw [← Nat.mul_div_cancel' (Nat.dvd_of_mod_eq_zero hl), hc, Nat.mul_assoc]⟩
      exact Nat.mod_eq_zero_of_dvd h3
  · intro hl
    exact tm_unique hk hd e1 hl
/-- it is not often -/
theorem tm_few {k d c : Nat} (hk : 2 ≤ k) (hd : 0 < d) (h : d < 10 ^ c) : (tm k d).1 < 4 * c := by
  have e := tm_eq k d
  have hp := tm_pos (k := k) hd
  have h1 : k ^ (tm k d).1 ≤ d := by
    conv => rhs; rw [e]
    exact Nat.le_mul_of_pos_right _ hp
  have h2 : 2 ^ (tm k d).1 ≤ k ^ (tm k d).1 := Nat.pow_le_pow_left hk _
  have h3 : 10 ^ c ≤ 2 ^ (4 * c) := by
    rw [Nat.pow_mul]
    exact Nat.pow_le_pow_left (by decide) c
  exact (Nat.pow_lt_pow_iff_right (by decide : 1 < 2)).mp (by omega)
theorem fin_tm (d : Nat) : fin d = if (tm 5 (tm 2 d).2).2 = 1 then some (max (tm 2 d).1 (tm 5 (tm 2 d).2).1) else none := rfl

end Go.Proofs.YthhihdihkddakaaGreatDoor.Num

/- The plain mathematics of layer 3's modes: when the program goes up. -/
namespace Go.Proofs.YthhihdihkddakaaGreatDoor.Fra

/-- does the mode go up? q: the number rounded down, h: how twice the rest compares with the denominator -/
def upB (m q h : Int) : Bool := decide ((m = 1 ∧ (0 < h ∨ (h = 0 ∧ q % 2 = 1))) ∨ (m = 2 ∧ (0 < h ∨ (h = 0 ∧ 0 ≤ q))) ∨ (m = 3 ∧ q < 0) ∨ (m = 4 ∧ 0 ≤ q) ∨ m = 6)
theorem rndR_up (m q r d : Int) : rndR m q r d = if r = 0 then q else if upB m q (cmp3 (2 * r) d) = true then q + 1 else q := by
  have h1 := cmp3_pos (2 * r) d
  have h2 := cmp3_zero (2 * r) d
  unfold rndR upB
  by_cases h : r = 0
  · rw [if_pos h, if_pos h]
  · rw [if_neg h, if_neg h]
    simp only [decide_eq_true_eq, h1, h2]
theorem rest_fmod {x : Int × Int} : Int.fmod x.1 x.2 = rest x := by
  unfold rest
  rw [Int.fmod_def, Int.mul_comm]
theorem fmod_two (q : Int) : Int.fmod q 2 = q % 2 := Int.fmod_eq_emod_of_nonneg q (by decide)
end Go.Proofs.YthhihdihkddakaaGreatDoor.Fra
