/- Plain mathematics of layer 6: months and days from 1900 on. -/
namespace Go.Proofs.YtgpjadlnfofppaaDoor.Dat

def leap (y : Nat) : Bool := y % 4 == 0 && (y % 100 != 0 || y % 400 == 0)
def mlen (y m : Nat) : Nat := if m = 2 then (if leap y = true then 29 else 28) else if m = 4 ∨ m = 6 ∨ m = 9 ∨ m = 11 then 30 else 31
/-- the length of the month with the index k = 12 * year + month - 1 -/
def ml (k : Nat) : Nat := mlen (k / 12) (k % 12 + 1)
theorem mlen_low (y m : Nat) : 28 ≤ mlen y m := by
  unfold mlen
  split
  · split <;> omega
  · split <;> omega
theorem mlen_high (y m : Nat) : mlen y m ≤ 31 := by
  unfold mlen
  split
  · split <;> omega
  · split <;> omega
theorem ml_low (k : Nat) : 28 ≤ ml k := mlen_low _ _
theorem ml_high (k : Nat) : ml k ≤ 31 := mlen_high _ _
theorem leap_iff (y : Nat) : leap y = true ↔ y % 4 = 0 ∧ (y % 100 ≠ 0 ∨ y % 400 = 0) := by
  unfold leap
  simp

/-- days before the month k, counted from January 1900 (month 0) -/
def st : Nat → Nat
  | 0 => 0
  | k + 1 => st k + ml (22800 + k)
theorem st_succ (k : Nat) : st (k + 1) = st k + ml (22800 + k) := rfl
theorem st_add_low (k d : Nat) : st k + 28 * d ≤ st (k + d) := by
  induction d with
  | zero => exact Nat.le_refl _
  | succ d ih => have := ml_low (22800 + (k + d)); rw [← Nat.add_assoc, st_succ]; omega
theorem st_add_high (k d : Nat) : st (k + d) ≤ st k + 31 * d := by
  induction d with
  | zero => exact Nat.le_refl _
  | succ d ih => have := ml_high (22800 + (k + d)); rw [← Nat.add_assoc, st_succ]; omega
theorem st_lt {i j : Nat} (h : i < j) : st i < st j := by
  have := st_add_low i (j - i)
  rw [show i + (j - i) = j by omega] at this
  omega
theorem st_le {i j : Nat} (h : i ≤ j) : st i ≤ st j := by
  rcases Nat.lt_or_eq_of_le h with h | rfl
  · exact Nat.le_of_lt (st_lt h)
  · exact Nat.le_refl _
/-- the month of a day n, counted from 0 = January 1, 1900 -/
def mo : Nat → Nat
  | 0 => 0
  | n + 1 => if st (mo n + 1) ≤ n + 1 then mo n + 1 else mo n
theorem mo_is (n : Nat) : st (mo n) ≤ n ∧ n < st (mo n + 1) := by
  induction n with
  | zero => exact ⟨Nat.le_refl _, by show 0 < st (0 + 1); have := st_add_low 0 1; omega⟩
  | succ n ih =>
    unfold mo
    by_cases h : st (mo n + 1) ≤ n + 1
    · rw [if_pos h]
      have := ml_low (22800 + (mo n + 1))
      have := st_succ (mo n + 1)
      omega
    · rw [if_neg h]; omega
theorem mo_uniq {n k : Nat} (h1 : st k ≤ n) (h2 : n < st (k + 1)) : mo n = k := by
  obtain ⟨g1, g2⟩ := mo_is n
  rcases Nat.lt_trichotomy (mo n) k with h | h | h
  · have := st_le (show mo n + 1 ≤ k from h); omega
  · exact h
  · have := st_le (show k + 1 ≤ mo n from h); omega
theorem mo_mono {n m : Nat} (h : n ≤ m) : mo n ≤ mo m := by
  obtain ⟨g1, g2⟩ := mo_is n
  obtain ⟨k1, k2⟩ := mo_is m
  rcases Nat.lt_or_ge (mo m) (mo n) with q | q
  · have := st_le (show mo m + 1 ≤ mo n from q); omega
  · exact q
/-- year, month and day of a day -/
def yr (n : Nat) : Nat := (22800 + mo n) / 12
def mn (n : Nat) : Nat := (22800 + mo n) % 12 + 1
def dy (n : Nat) : Nat := n - st (mo n) + 1
/-- the day of a date -/
def dof (y m d : Nat) : Nat := st (12 * y + (m - 1) - 22800) + (d - 1)
theorem dof_parts (n : Nat) : dof (yr n) (mn n) (dy n) = n := by
  obtain ⟨g1, _⟩ := mo_is n
  unfold dof yr mn dy
  rw [show 12 * ((22800 + mo n) / 12) + ((22800 + mo n) % 12 + 1 - 1) - 22800 = mo n by omega]
  omega
theorem parts_dof {y m d : Nat} (hy : 1900 ≤ y) (hm : 1 ≤ m ∧ m ≤ 12) (hd : 1 ≤ d ∧ d ≤ mlen y m) : yr (dof y m d) = y ∧ mn (dof y m d) = m ∧ dy (dof y m d) = d := by
  obtain ⟨k, hk⟩ : ∃ k, 12 * y + (m - 1) - 22800 = k := ⟨_, rfl⟩
  have hki : 22800 + k = 12 * y + (m - 1) := by omega
  have hml : ml (22800 + k) = mlen y m := by
    unfold ml
    rw [hki, show (12 * y + (m - 1)) / 12 = y by omega, show (12 * y + (m - 1)) % 12 + 1 = m by omega]
  have hmo : mo (dof y m d) = k := by
    unfold dof
    rw [hk]
    exact mo_uniq (by omega) (by rw [st_succ, hml]; omega)
  unfold yr mn dy
  rw [hmo, hki]
  refine ⟨by omega, by omega, ?_⟩
  unfold dof
  rw [hk]
  omega
theorem dy_le (n : Nat) : 1 ≤ dy n ∧ dy n ≤ mlen (yr n) (mn n) := by
  obtain ⟨g1, g2⟩ := mo_is n
  rw [st_succ] at g2
  unfold dy yr mn
  unfold ml at g2
  omega
theorem mn_le (n : Nat) : 1 ≤ mn n ∧ mn n ≤ 12 := by unfold mn; omega
theorem yr_low (n : Nat) : 1900 ≤ yr n := by unfold yr; omega

/-! ### Years -/
/-- leap years before y -/
def lps (y : Nat) : Nat := (y - 1) / 4 - (y - 1) / 100 + (y - 1) / 400
theorem lps_succ {y : Nat} (h : 1 ≤ y) : lps (y + 1) = lps y + if leap y = true then 1 else 0 := by
  unfold lps
  by_cases hl : leap y = true
  · have := (leap_iff y).1 hl
    rw [if_pos hl]
    omega
  · have : ¬ (y % 4 = 0 ∧ (y % 100 ≠ 0 ∨ y % 400 = 0)) := fun e => hl ((leap_iff y).2 e)
    rw [if_neg hl]
    omega
def ylen (y : Nat) : Nat := if leap y = true then 366 else 365
theorem ml_at (y m : Nat) (h : m < 12) : ml (12 * y + m) = mlen y (m + 1) := by
  unfold ml
  rw [show (12 * y + m) / 12 = y by omega, show (12 * y + m) % 12 = m by omega]
/-- days before the month m + 1 of a year -/
def cum (l : Bool) : Nat → Nat
  | 0 => 0 | 1 => 31 | 2 => if l = true then 60 else 59 | 3 => if l = true then 91 else 90 | 4 => if l = true then 121 else 120 | 5 => if l = true then 152 else 151
  | 6 => if l = true then 182 else 181 | 7 => if l = true then 213 else 212 | 8 => if l = true then 244 else 243 | 9 => if l = true then 274 else 273 | 10 => if l = true then 305 else 304 | 11 => if l = true then 335 else 334
  | _ => if l = true then 366 else 365
theorem st_in (j m : Nat) (h : m ≤ 12) : st (12 * j + m) = st (12 * j) + cum (leap (1900 + j)) m := by
  have hs : ∀ i, i < 12 → st (12 * j + (i + 1)) = st (12 * j + i) + mlen (1900 + j) (i + 1) := fun i hi => by
    rw [← Nat.add_assoc, st_succ, show 22800 + (12 * j + i) = 12 * (1900 + j) + i by omega, ml_at _ _ hi]
  have h0 := hs 0 (by omega)
  have h1 := hs 1 (by omega)
  have h2 := hs 2 (by omega)
  have h3 := hs 3 (by omega)
  have h4 := hs 4 (by omega)
  have h5 := hs 5 (by omega)
  have h6 := hs 6 (by omega)
  have h7 := hs 7 (by omega)
  have h8 := hs 8 (by omega)
  have h9 := hs 9 (by omega)
  have h10 := hs 10 (by omega)
  have h11 := hs 11 (by omega)
  cases hl : leap (1900 + j) with
  | true =>
    simp [mlen, hl] at h0 h1 h2 h3 h4 h5 h6 h7 h8 h9 h10 h11
    match m, h with
    | 0, _ => simp [cum]
    | 1, _ => simp [cum]; omega
    | 2, _ => simp [cum]; omega
    | 3, _ => simp [cum]; omega
    | 4, _ => simp [cum]; omega
    | 5, _ => simp [cum]; omega
    | 6, _ => simp [cum]; omega
    | 7, _ => simp [cum]; omega
    | 8, _ => simp [cum]; omega
    | 9, _ => simp [cum]; omega
    | 10, _ => simp [cum]; omega
    | 11, _ => simp [cum]; omega
    | 12, _ => simp [cum]; omega
    | k + 13, h => omega
  | false =>
    simp [mlen, hl] at h0 h1 h2 h3 h4 h5 h6 h7 h8 h9 h10 h11
    match m, h with
    | 0, _ => simp [cum]
    | 1, _ => simp [cum]; omega
    | 2, _ => simp [cum]; omega
    | 3, _ => simp [cum]; omega
    | 4, _ => simp [cum]; omega
    | 5, _ => simp [cum]; omega
    | 6, _ => simp [cum]; omega
    | 7, _ => simp [cum]; omega
    | 8, _ => simp [cum]; omega
    | 9, _ => simp [cum]; omega
    | 10, _ => simp [cum]; omega
    | 11, _ => simp [cum]; omega
    | 12, _ => simp [cum]; omega
    | k + 13, h => omega
theorem st_year (j : Nat) : st (12 * (j + 1)) = st (12 * j) + ylen (1900 + j) := by
  have := st_in j 12 (Nat.le_refl _)
  rw [show 12 * j + 12 = 12 * (j + 1) by omega] at this
  rw [this]
  unfold ylen
  simp [cum]
theorem st_closed (j : Nat) : st (12 * j) + 460 = 365 * j + lps (1900 + j) := by
  induction j with
  | zero =>
    have h : lps (1900 + 0) = 460 := by unfold lps; omega
    have h0 : st (12 * 0) = 0 := rfl
    rw [h, h0]
  | succ j ih =>
    rw [st_year, ← Nat.add_assoc, lps_succ (by omega)]
    unfold ylen
    split <;> omega
theorem st_all : st 3600 = 109573 := by
  have h := st_closed 300
  rw [show lps (1900 + 300) = 533 by unfold lps; omega, show 12 * 300 = 3600 from rfl] at h
  generalize st 3600 = z at h ⊢
  omega

end Go.Proofs.YtgpjadlnfofppaaDoor.Dat
