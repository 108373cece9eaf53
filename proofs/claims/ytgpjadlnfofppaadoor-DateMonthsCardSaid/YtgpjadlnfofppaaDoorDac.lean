/- Layer 6: the values that its functions return, as integers. -/
import Derived.Test.YtgpjadlnfofppaaDoorDab
namespace Go.Proofs.YtgpjadlnfofppaaDoor.Dat

/-- is a day valid? -/
def okD (d : Int) : Bool := decide (-25567 ≤ d ∧ d ≤ 84005)
/-- the number of a day, counted from MinDay -/
def ix (d : Int) : Nat := (d + 25567).toNat
theorem okD_iff {d : Int} : okD d = true ↔ -25567 ≤ d ∧ d ≤ 84005 := by unfold okD; exact decide_eq_true_iff
theorem okD_not {d : Int} : okD d = false ↔ ¬ (-25567 ≤ d ∧ d ≤ 84005) := by unfold okD; exact decide_eq_false_iff_not
theorem ix_is {d : Int} (h : okD d = true) : ((ix d : Nat) : Int) = d + 25567 ∧ ix d < 109573 := by
  have := okD_iff.1 h
  unfold ix
  omega
theorem ix_of {d : Int} {n : Nat} (h : d + 25567 = n) : ix d = n := by unfold ix; omega
/-- is a year a leap year? -/
def lpB (y : Int) : Bool := (y.tmod 4 == 0 && y.tmod 100 != 0) || y.tmod 400 == 0
theorem lpB_nat (y : Nat) : lpB (y : Int) = leap y := by
  have h4 : ((y : Int).tmod 4 == 0) = (y % 4 == 0) := by rw [Bool.eq_iff_iff, beq_iff_eq, beq_iff_eq, Int.tmod_eq_emod_of_nonneg (by omega)]; omega
  have h1 : ((y : Int).tmod 100 == 0) = (y % 100 == 0) := by rw [Bool.eq_iff_iff, beq_iff_eq, beq_iff_eq, Int.tmod_eq_emod_of_nonneg (by omega)]; omega
  have h0 : ((y : Int).tmod 400 == 0) = (y % 400 == 0) := by rw [Bool.eq_iff_iff, beq_iff_eq, beq_iff_eq, Int.tmod_eq_emod_of_nonneg (by omega)]; omega
  unfold lpB leap bne
  rw [h4, h1, h0]
  have hd : y % 400 = 0 → y % 4 = 0 := by omega
  cases g4 : y % 4 == 0 <;> cases g1 : y % 100 == 0 <;> cases g0 : y % 400 == 0 <;> simp_all
/-- the number of days of a month -/
def lenI (y m : Int) : Int := if m = 2 then (if lpB y = true then 29 else 28) else if m = 4 ∨ m = 6 ∨ m = 9 ∨ m = 11 then 30 else 31
theorem lenI_nat (y m : Nat) : lenI y m = mlen y m := by
  unfold lenI mlen
  rw [lpB_nat]
  by_cases h : m = 2
  · rw [if_pos h, if_pos (by omega)]
    split <;> rfl
  · rw [if_neg h, if_neg (by omega)]
    by_cases g : m = 4 ∨ m = 6 ∨ m = 9 ∨ m = 11
    · rw [if_pos g, if_pos (by omega)]
      rfl
    · rw [if_neg g, if_neg (by omega)]
      rfl
theorem lenI_low (y m : Int) : 28 ≤ lenI y m := by
  unfold lenI
  split
  · split <;> omega
  · split <;> omega
theorem lenI_high (y m : Int) : lenI y m ≤ 31 := by
  unfold lenI
  split
  · split <;> omega
  · split <;> omega
/-- the first day of a year -/
def lpsI (y : Int) : Int := (y - 1) / 4 - (y - 1) / 100 + (y - 1) / 400
def nyI (y : Int) : Int := 365 * (y - 1970) + lpsI y - 477
theorem nyI_st (j : Nat) : nyI (1900 + (j : Int)) = (st (12 * j) : Int) - 25567 := by
  have h := st_closed j
  unfold lps at h
  unfold nyI lpsI
  omega
theorem nyI_bound {y : Int} (h1 : 1 ≤ y) (h2 : y ≤ 10000) : -800000 ≤ nyI y ∧ nyI y ≤ 3000000 := by unfold nyI lpsI; omega
theorem nyI_low {y : Int} (h1 : 1 ≤ y) (h2 : y ≤ 1900) : nyI y ≤ -25567 := by unfold nyI lpsI; omega
theorem nyI_high {y : Int} (h1 : 2200 ≤ y) (h2 : y ≤ 10000) : 84006 ≤ nyI y := by unfold nyI lpsI; omega
theorem nyI_succ {y : Int} (h1 : 1 ≤ y) : nyI (y + 1) = nyI y + 365 + if lpB y = true then 1 else 0 := by
  obtain ⟨k, rfl⟩ : ∃ k : Nat, y = k := ⟨y.toNat, by omega⟩
  have h := lps_succ (y := k) (by omega)
  rw [lpB_nat]
  unfold lps at h
  unfold nyI lpsI
  by_cases hl : leap k = true
  · rw [if_pos hl] at h ⊢
    omega
  · rw [if_neg hl] at h ⊢
    omega
/-- the days of a year before a month -/
def cumI (y m : Int) : Int := (cum (lpB y) (m.toNat - 1) : Nat)
theorem cumI_one (y : Int) : cumI y 1 = 0 := rfl
theorem cumI_succ (y : Int) {m : Int} (h1 : 1 ≤ m) (h2 : m ≤ 12) : cumI y (m + 1) = cumI y m + lenI y m := by
  have hm : m = 1 ∨ m = 2 ∨ m = 3 ∨ m = 4 ∨ m = 5 ∨ m = 6 ∨ m = 7 ∨ m = 8 ∨ m = 9 ∨ m = 10 ∨ m = 11 ∨ m = 12 := by omega
  unfold cumI lenI
  cases lpB y <;> rcases hm with rfl | rfl | rfl | rfl | rfl | rfl | rfl | rfl | rfl | rfl | rfl | rfl <;> rfl
theorem cumI_thirteen (y : Int) : cumI y 13 = 365 + if lpB y = true then 1 else 0 := by
  unfold cumI
  cases lpB y <;> rfl
theorem cumI_low (y m : Int) : 0 ≤ cumI y m := by unfold cumI; omega
theorem cumI_high (y : Int) {m : Int} (h1 : 1 ≤ m) (h2 : m ≤ 12) : cumI y m + lenI y m ≤ 365 + if lpB y = true then 1 else 0 := by
  have hm : m = 1 ∨ m = 2 ∨ m = 3 ∨ m = 4 ∨ m = 5 ∨ m = 6 ∨ m = 7 ∨ m = 8 ∨ m = 9 ∨ m = 10 ∨ m = 11 ∨ m = 12 := by omega
  unfold cumI lenI
  cases lpB y <;> rcases hm with rfl | rfl | rfl | rfl | rfl | rfl | rfl | rfl | rfl | rfl | rfl | rfl <;> decide
theorem lpB_at (j : Nat) : lpB (1900 + (j : Int)) = leap (1900 + j) := by rw [← lpB_nat]; rfl
/-- the first day of a month -/
theorem st_at (j : Nat) {m : Int} (h1 : 1 ≤ m) (h2 : m ≤ 13) : (st (12 * j + (m.toNat - 1)) : Int) = st (12 * j) + cumI (1900 + (j : Int)) m := by
  rw [st_in j (m.toNat - 1) (by omega)]
  unfold cumI
  rw [lpB_at]
  omega
theorem first_day {y m : Int} (h0 : 1900 ≤ y) (h1 : 1 ≤ m) (h2 : m ≤ 13) {k : Nat} (hk : 12 * y + (m - 1) = 22800 + k) : nyI y + cumI y m = (st k : Int) - 25567 := by
  obtain ⟨j, rfl⟩ : ∃ j : Nat, y = 1900 + (j : Int) := ⟨(y - 1900).toNat, by omega⟩
  rw [show k = 12 * j + (m.toNat - 1) by omega, st_at j h1 h2, nyI_st]
  omega
theorem lenI_ml {y m : Int} (h0 : 1900 ≤ y) (h1 : 1 ≤ m) (h2 : m ≤ 12) {k : Nat} (hk : 12 * y + (m - 1) = 22800 + k) : lenI y m = ml (22800 + k) := by
  obtain ⟨j, rfl⟩ : ∃ j : Nat, y = (j : Int) := ⟨y.toNat, by omega⟩
  obtain ⟨i, rfl⟩ : ∃ i : Nat, m = (i : Int) + 1 := ⟨(m - 1).toNat, by omega⟩
  rw [show ((i : Int) + 1) = ((i + 1 : Nat) : Int) by omega, lenI_nat, show 22800 + k = 12 * j + i by omega, ml_at _ _ (by omega)]
/-- the date of a day -/
theorem parts_at {n : Nat} {y m : Int} (h0 : 1900 ≤ y) (h1 : 1 ≤ m) (h2 : m ≤ 12) (g1 : nyI y + cumI y m ≤ (n : Int) - 25567) (g2 : (n : Int) - 25567 < nyI y + cumI y m + lenI y m) :
    y = yr n ∧ m = mn n ∧ (n : Int) - 25567 - (nyI y + cumI y m) + 1 = dy n := by
  obtain ⟨k, hk⟩ : ∃ k : Nat, 12 * y + (m - 1) = 22800 + k := ⟨(12 * y + (m - 1) - 22800).toNat, by omega⟩
  have e1 := first_day h0 h1 (by omega) hk
  have e2 := lenI_ml h0 h1 h2 hk
  have e3 := st_succ k
  have hm : mo n = k := mo_uniq (by omega) (by omega)
  unfold yr mn dy
  rw [hm]
  omega
theorem dI_range (n : Nat) (h : n < 109573) : -25567 ≤ (n : Int) - 25567 ∧ (n : Int) - 25567 ≤ 84005 := by omega
theorem mo_small {n : Nat} (h : n < 109573) : mo n < 3600 := by
  obtain ⟨g1, _⟩ := mo_is n
  rcases Nat.lt_or_ge (mo n) 3600 with q | q
  · exact q
  · have := st_le q
    rw [st_all] at this
    omega
theorem yr_high {n : Nat} (h : n < 109573) : yr n ≤ 2199 := by have := mo_small h; unfold yr; omega
theorem st_small {k : Nat} (h : k ≤ 3600) : st k ≤ 109573 := by have := st_le h; rwa [st_all] at this
/-- the year of a day lies behind the years that begin before it -/
theorem yr_guess {n : Nat} {y : Int} (h0 : 1900 ≤ y) (hy : y = 1900 + ((n : Int) / 366)) : nyI y ≤ (n : Int) - 25567 := by
  obtain ⟨j, hj⟩ : ∃ j : Nat, y = 1900 + (j : Int) := ⟨(y - 1900).toNat, by omega⟩
  have h := st_closed j
  unfold lps at h
  rw [hj, nyI_st]
  omega

/-! ### The results -/
/-- is there such a date, and is its day valid? -/
def okT (y m d : Int) : Bool := decide (1900 ≤ y ∧ y ≤ 2199 ∧ 1 ≤ m ∧ m ≤ 12 ∧ 1 ≤ d ∧ d ≤ lenI y m)
def ofR (y m d : Int) : Int × Int := if okT y m d = true then (nyI y + cumI y m + d - 1, 0) else (0, 13)
def partsR (d : Int) : Int × Int × Int × Int := if okD d = true then (yr (ix d), mn (ix d), dy (ix d), 0) else (0, 0, 0, 13)
def wdR (d : Int) : Int × Int := if okD d = true then ((d + 25567) % 7, 0) else (0, 13)
def lastR (d : Int) : Int × Int := if okD d = true then ((lst (ix d) : Int) - 25567, 0) else (0, 13)
/-- shifted by months -/
def shI (n : Nat) (k : Int) : Int :=
  nyI ((22800 + (mo n : Int) + k) / 12) + cumI ((22800 + (mo n : Int) + k) / 12) ((22800 + (mo n : Int) + k) % 12 + 1) + min (dy n : Int) (lenI ((22800 + (mo n : Int) + k) / 12) ((22800 + (mo n : Int) + k) % 12 + 1)) - 1
def addR (d k : Int) : Int × Int := if okD d = true then (if k < -4800 ∨ 4800 < k then (0, 2) else if 0 ≤ (mo (ix d) : Int) + k ∧ (mo (ix d) : Int) + k < 3600 then ((am (ix d) ((mo (ix d) : Int) + k).toNat : Int) - 25567, 0) else (0, 13)) else (0, 13)
def monR (a b : Int) : Int × Int := if okD a = true ∧ okD b = true then (if a ≤ b then ((months (ix a) (ix b) : Int), 0) else (-(months (ix b) (ix a) : Int), 0)) else (0, 13)

theorem shI_ok {n : Nat} {k : Int} {j : Nat} (h : (mo n : Int) + k = j) : shI n k = (am n j : Int) - 25567 := by
  obtain ⟨y, hy⟩ : ∃ y, (22800 + (mo n : Int) + k) / 12 = y := ⟨_, rfl⟩
  obtain ⟨m, hm⟩ : ∃ m, (22800 + (mo n : Int) + k) % 12 + 1 = m := ⟨_, rfl⟩
  unfold shI
  rw [hy, hm, first_day (k := j) (by omega) (by omega) (by omega) (by omega), lenI_ml (k := j) (by omega) (by omega) (by omega) (by omega)]
  have h1 := ml_low (22800 + j)
  have h2 := dy_pos n
  unfold am
  omega
theorem shI_low {n : Nat} {k : Int} (h : (mo n : Int) + k < 0) (hk : -4800 ≤ k) : shI n k < -25567 := by
  obtain ⟨y, hy⟩ : ∃ y, (22800 + (mo n : Int) + k) / 12 = y := ⟨_, rfl⟩
  obtain ⟨m, hm⟩ : ∃ m, (22800 + (mo n : Int) + k) % 12 + 1 = m := ⟨_, rfl⟩
  unfold shI
  rw [hy, hm]
  have h1 := cumI_high y (m := m) (by omega) (by omega)
  have h2 := nyI_succ (y := y) (by omega)
  have h3 := nyI_low (y := y + 1) (by omega) (by omega)
  omega
theorem shI_high {n : Nat} {k : Int} (h : 3600 ≤ (mo n : Int) + k) (hk : k ≤ 4800) (hn : n < 109573) : 84005 < shI n k := by
  have h0 := mo_small hn
  obtain ⟨y, hy⟩ : ∃ y, (22800 + (mo n : Int) + k) / 12 = y := ⟨_, rfl⟩
  obtain ⟨m, hm⟩ : ∃ m, (22800 + (mo n : Int) + k) % 12 + 1 = m := ⟨_, rfl⟩
  unfold shI
  rw [hy, hm]
  have h1 := cumI_low y m
  have h2 := lenI_low y m
  have h3 := nyI_high (y := y) (by omega) (by omega)
  have h4 := dy_pos n
  omega
theorem shI_bound {n : Nat} {k : Int} (hn : n < 109573) (h1 : -4800 ≤ k) (h2 : k ≤ 4800) : -1000000 ≤ shI n k ∧ shI n k ≤ 4000000 := by
  have h0 := mo_small hn
  obtain ⟨y, hy⟩ : ∃ y, (22800 + (mo n : Int) + k) / 12 = y := ⟨_, rfl⟩
  obtain ⟨m, hm⟩ : ∃ m, (22800 + (mo n : Int) + k) % 12 + 1 = m := ⟨_, rfl⟩
  unfold shI
  rw [hy, hm]
  have g1 := cumI_high y (m := m) (by omega) (by omega)
  have g2 := cumI_low y m
  have g3 := nyI_bound (y := y) (by omega) (by omega)
  have g4 := lenI_low y m
  have g5 := lenI_high y m
  have g6 := dy_pos n
  split at g1 <;> omega
/-- a shifted day is valid exactly in the valid months -/
theorem shI_addR {d k : Int} (hd : okD d = true) (h1 : -4800 ≤ k) (h2 : k ≤ 4800) : addR d k = if okD (shI (ix d) k) = true then (shI (ix d) k, 0) else (0, 13) := by
  obtain ⟨_, hn⟩ := ix_is hd
  unfold addR
  rw [if_pos hd, if_neg (by omega)]
  by_cases h : 0 ≤ (mo (ix d) : Int) + k ∧ (mo (ix d) : Int) + k < 3600
  · obtain ⟨j, hj⟩ : ∃ j : Nat, (mo (ix d) : Int) + k = j := ⟨((mo (ix d) : Int) + k).toNat, by omega⟩
    have e := shI_ok hj
    have h3 := (am_in (ix d) j).2
    have h4 := st_small (k := j + 1) (by omega)
    rw [if_pos h, hj, e, if_pos (by rw [okD_iff]; omega)]
    rfl
  · rw [if_neg h, if_neg]
    rw [okD_iff]
    by_cases g : (mo (ix d) : Int) + k < 0
    · have := shI_low g h1
      omega
    · have := shI_high (n := ix d) (k := k) (by omega) h2 hn
      omega
theorem monR_le {a b : Int} (ha : okD a = true) (hb : okD b = true) (h : a ≤ b) : monR a b = ((months (ix a) (ix b) : Int), 0) := by unfold monR; rw [if_pos ⟨ha, hb⟩, if_pos h]
theorem ix_le {a b : Int} (ha : okD a = true) (hb : okD b = true) (h : a ≤ b) : ix a ≤ ix b := by have := ix_is ha; have := ix_is hb; omega
/-- the whole months, by the day that is shifted into the month of b -/
theorem months_sh {a b : Int} (ha : okD a = true) (hb : okD b = true) (h : a ≤ b) : (months (ix a) (ix b) : Int) = (mo (ix b) : Int) - mo (ix a) - if b < shI (ix a) ((mo (ix b) : Int) - mo (ix a)) then 1 else 0 := by
  have e := shI_ok (n := ix a) (k := (mo (ix b) : Int) - mo (ix a)) (j := mo (ix b)) (by omega)
  have hl := ix_le ha hb h
  have hm := mo_mono hl
  have := ix_is ha
  have := ix_is hb
  rw [e]
  unfold months
  by_cases q : ix b < am (ix a) (mo (ix b))
  · have hne : mo (ix a) ≠ mo (ix b) := fun e => by rw [← e, am_self] at q; omega
    rw [if_pos q, if_pos (by omega)]
    omega
  · rw [if_neg q, if_neg (by omega)]
    omega
theorem yr_mn (n : Nat) : 12 * (yr n : Int) + mn n - 1 = 22800 + mo n := by unfold yr mn; omega
/-- the last day of the month of a day -/
theorem last_is (n : Nat) : nyI (yr n) + cumI (yr n) (mn n) + lenI (yr n) (mn n) - 1 = (lst n : Int) - 25567 := by
  have h := yr_mn n
  have h1 := mn_le n
  have h2 := yr_low n
  rw [first_day (k := mo n) (by omega) (by omega) (by omega) (by omega), lenI_ml (k := mo n) (by omega) (by omega) (by omega) (by omega)]
  unfold lst
  rw [st_succ]
  have := ml_low (22800 + mo n)
  omega
/-- the day of a date is its day -/
theorem day_is (n : Nat) : nyI (yr n) + cumI (yr n) (mn n) + dy n - 1 = (n : Int) - 25567 := by
  have h := yr_mn n
  have h1 := mn_le n
  have h2 := yr_low n
  rw [first_day (k := mo n) (by omega) (by omega) (by omega) (by omega)]
  obtain ⟨g1, _⟩ := mo_is n
  unfold dy
  omega
theorem len_is (n : Nat) : lenI (yr n) (mn n) = ml (22800 + mo n) := by
  have h := yr_mn n
  have h1 := mn_le n
  have h2 := yr_low n
  exact lenI_ml (by omega) (by omega) (by omega) (by omega)
end Go.Proofs.YtgpjadlnfofppaaDoor.Dat
