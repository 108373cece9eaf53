/- Plain mathematics of layer 6: days shifted by months; whole months between days. -/
import Derived.Test.YtgpjadlnfofppaaDoorDaa
namespace Go.Proofs.YtgpjadlnfofppaaDoor.Dat

/-- the day n, moved into month j -/
def am (n j : Nat) : Nat := st j + (min (dy n) (ml (22800 + j)) - 1)
theorem dy_pos (n : Nat) : 1 ≤ dy n := by unfold dy; omega
theorem am_in (n j : Nat) : st j ≤ am n j ∧ am n j < st (j + 1) := by
  have h1 := ml_low (22800 + j)
  have h2 := dy_pos n
  have h3 := st_succ j
  unfold am
  omega
theorem am_mo (n j : Nat) : mo (am n j) = j := mo_uniq (am_in n j).1 (am_in n j).2
theorem am_dy (n j : Nat) : dy (am n j) = min (dy n) (ml (22800 + j)) := by
  have h1 := ml_low (22800 + j)
  have h2 := dy_pos n
  rw [dy, am_mo]
  unfold am
  omega
theorem dy_ml (n : Nat) : dy n ≤ ml (22800 + mo n) := by
  obtain ⟨g1, g2⟩ := mo_is n
  rw [st_succ] at g2
  unfold dy
  omega
theorem am_self (n : Nat) : am n (mo n) = n := by
  have h1 := dy_ml n
  obtain ⟨g1, g2⟩ := mo_is n
  unfold am
  rw [Nat.min_eq_left h1]
  unfold dy
  omega
theorem am_am {n : Nat} (h : dy n ≤ 28) (j k : Nat) : am (am n j) k = am n k := by
  have h1 := ml_low (22800 + j)
  have h2 := am_dy n j
  rw [Nat.min_eq_left (by omega)] at h2
  unfold am at *
  rw [h2]
theorem am_less (n : Nat) {j k : Nat} (h : j < k) : am n j < am n k := by
  have h1 := (am_in n j).2
  have h2 := (am_in n k).1
  have h3 := st_le (show j + 1 ≤ k from h)
  omega
/-- a later day is not moved to an earlier one -/
theorem am_mono {a b s : Nat} (h : a ≤ b) (j : Nat) (hj : mo a + s = j + mo b) : am a j ≤ am b s := by
  have hm := mo_mono h
  rcases Nat.lt_or_eq_of_le hm with q | q
  · have h1 := (am_in a j).2
    have h2 := (am_in b s).1
    have h3 := st_le (show j + 1 ≤ s by omega)
    omega
  · have e : s = j := by omega
    subst e
    have hd : dy a ≤ dy b := by unfold dy; rw [q]; omega
    have h2 := dy_pos a
    have h3 := ml_low (22800 + s)
    unfold am
    omega
/-- the whole months from a to a later day b -/
def months (a b : Nat) : Nat := if b < am a (mo b) then mo b - mo a - 1 else mo b - mo a
theorem months_is {a b : Nat} (h : a ≤ b) : am a (mo a + months a b) ≤ b ∧ b < am a (mo a + months a b + 1) := by
  have hm := mo_mono h
  obtain ⟨g1, g2⟩ := mo_is b
  unfold months
  by_cases q : b < am a (mo b)
  · rw [if_pos q]
    have hne : mo a ≠ mo b := fun e => by rw [← e, am_self] at q; omega
    rw [show mo a + (mo b - mo a - 1) + 1 = mo b by omega]
    refine ⟨?_, q⟩
    have h1 := (am_in a (mo a + (mo b - mo a - 1))).2
    rw [show mo a + (mo b - mo a - 1) + 1 = mo b by omega] at h1
    omega
  · rw [if_neg q, show mo a + (mo b - mo a) = mo b by omega]
    refine ⟨by omega, ?_⟩
    have h1 := (am_in a (mo b + 1)).1
    omega
theorem months_same (a : Nat) : months a a = 0 := by
  unfold months
  rw [am_self, if_neg (by omega)]
  omega
/-- the last day of the month -/
def lst (n : Nat) : Nat := st (mo n + 1) - 1
theorem lst_is (n : Nat) : lst n = n + (ml (22800 + mo n) - dy n) := by
  have h1 := dy_ml n
  obtain ⟨g1, g2⟩ := mo_is n
  have h2 := st_succ (mo n)
  unfold lst dy at *
  omega
theorem mo_next (n : Nat) : (n < lst n → mo (n + 1) = mo n) ∧ (lst n ≤ n → n = lst n ∧ mo (n + 1) = mo n + 1 ∧ dy (n + 1) = 1) := by
  obtain ⟨g1, g2⟩ := mo_is n
  have h2 := ml_low (22800 + (mo n + 1))
  have h3 := st_succ (mo n + 1)
  constructor
  · intro h
    unfold lst at h
    exact mo_uniq (by omega) (by omega)
  · intro h
    unfold lst at h ⊢
    have e : mo (n + 1) = mo n + 1 := mo_uniq (by omega) (by omega)
    refine ⟨by omega, e, ?_⟩
    unfold dy
    rw [e]
    omega
theorem dy_next {n : Nat} (h : n < lst n) : dy (n + 1) = dy n + 1 := by
  obtain ⟨g1, _⟩ := mo_is n
  unfold dy
  rw [(mo_next n).1 h]
  omega

end Go.Proofs.YtgpjadlnfofppaaDoor.Dat
