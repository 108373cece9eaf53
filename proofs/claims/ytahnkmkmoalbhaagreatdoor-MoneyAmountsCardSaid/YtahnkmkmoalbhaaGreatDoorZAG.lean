/- Plain mathematics of layer 5: the first error of a row; bags and tables as rows. -/
import Derived.Test.YtahnkmkmoalbhaaGreatDoorZAE
import Derived.Test.YtahnkmkmoalbhaaGreatDoorZAF
import Derived.Lib.LastIndexByte
namespace Go.Proofs.YtahnkmkmoalbhaaGreatDoor

/-- the first of f 0 .. f (n - 1) that is not 0; or 0 -/
def firstE (f : Nat → Int) : Nat → Int
  | 0 => 0
  | n + 1 => if firstE f n = 0 then f n else firstE f n
theorem firstE_zero {f : Nat → Int} : ∀ {n : Nat}, firstE f n = 0 ↔ ∀ i, i < n → f i = 0
  | 0 => ⟨fun _ _ h => absurd h (by omega), fun _ => rfl⟩
  | n + 1 => by
    unfold firstE
    constructor
    · intro h i hi
      by_cases h0 : firstE f n = 0
      · rw [if_pos h0] at h
        by_cases e : i = n
        · rw [e]; exact h
        · exact firstE_zero.1 h0 i (by omega)
      · rw [if_neg h0] at h; exact absurd h h0
    · intro h
      have h0 : firstE f n = 0 := firstE_zero.2 fun i hi => h i (by omega)
      rw [if_pos h0]
      exact h n (by omega)
theorem firstE_at {f : Nat → Int} {k : Nat} (hk : f k ≠ 0) (h : ∀ i, i < k → f i = 0) : ∀ {n : Nat}, k < n → firstE f n = f k
  | 0, hn => absurd hn (by omega)
  | n + 1, hn => by
    unfold firstE
    by_cases e : k = n
    · subst e
      rw [if_pos (firstE_zero.2 h)]
    · have ih := firstE_at hk h (n := n) (by omega)
      rw [if_neg (by rw [ih]; exact hk), ih]
theorem firstE_congr {f g : Nat → Int} : ∀ {n : Nat}, (∀ i, i < n → f i = g i) → firstE f n = firstE g n
  | 0, _ => rfl
  | n + 1, h => by
    unfold firstE
    rw [firstE_congr fun i hi => h i (by omega), h n (by omega)]

/-- the pairs of a row -/
def bagL (n : Nat) (u : Nat → ByteArray) (x : Nat → Int) : Bag := (List.range n).map fun i => (u i, x i)
theorem bagL_len (n : Nat) (u : Nat → ByteArray) (x : Nat → Int) : (bagL n u x).length = n := by unfold bagL; simp
theorem bagL_at {n i : Nat} {u : Nat → ByteArray} {x : Nat → Int} (h : i < n) : (bagL n u x)[i]? = some (u i, x i) := by
  unfold bagL
  rw [List.getElem?_map, List.getElem?_range h]
  rfl
/-- a list as a row -/
def atU (b : Bag) (i : Nat) : ByteArray := (b.getD i (⟨#[]⟩, 0)).1
def atX (b : Bag) (i : Nat) : Int := (b.getD i (⟨#[]⟩, 0)).2
theorem bagL_of (b : Bag) : bagL b.length (atU b) (atX b) = b := by
  apply List.ext_getElem?
  intro i
  by_cases h : i < b.length
  · rw [bagL_at h]
    unfold atU atX
    rw [List.getD_eq_getElem?_getD, List.getElem?_eq_getElem h]
    rfl
  · rw [List.getElem?_eq_none (by rw [bagL_len]; omega), List.getElem?_eq_none (by omega)]
theorem bagL_asc {u : Nat → ByteArray} {x : Nat → Int} : ∀ {n : Nat}, (∀ i, i + 1 < n → bl (u i) (u (i + 1)) = true) → Asc (bagL n u x)
  | 0, _ => List.Pairwise.nil
  | n + 1, h => by
    have hlt : ∀ d i, i + d + 1 < n + 1 → bl (u i) (u (i + d + 1)) = true := fun d => by
      induction d with
      | zero => exact fun i hi => h i hi
      | succ d ih => exact fun i hi => bl_trans (ih i (by omega)) (h (i + d + 1) hi)
    unfold Asc bagL
    rw [List.pairwise_map]
    refine List.Pairwise.imp_of_mem ?_ (List.pairwise_lt_range (n := n + 1))
    intro a b ha hb hab
    have hb := List.mem_range.1 hb
    have := hlt (b - a - 1) a (by omega)
    rwa [show a + (b - a - 1) + 1 = b by omega] at this
theorem asc_bagL {u : Nat → ByteArray} {x : Nat → Int} {n : Nat} (h : Asc (bagL n u x)) {i : Nat} (hi : i + 1 < n) : bl (u i) (u (i + 1)) = true := by
  unfold Asc bagL at h
  rw [List.pairwise_map, List.pairwise_iff_getElem] at h
  have := h i (i + 1) (by simp; omega) (by simp; omega) (by omega)
  simpa using this
theorem bagL_nz {u : Nat → ByteArray} {x : Nat → Int} {n : Nat} : NZ (bagL n u x) ↔ ∀ i, i < n → x i ≠ 0 := by
  unfold NZ bagL
  constructor
  · intro h i hi
    exact h (u i, x i) (List.mem_map.2 ⟨i, List.mem_range.2 hi, rfl⟩)
  · intro h p hp
    obtain ⟨i, hi, rfl⟩ := List.mem_map.1 hp
    exact h i (List.mem_range.1 hi)

/-- letters A to Z -/
def isLet (b : UInt8) : Bool := decide (65 ≤ b.toNat ∧ b.toNat ≤ 90)
/-- three letters -/
def codeS (s : ByteArray) : Bool := s.data.toList.all isLet && decide (s.size = 3)
theorem all_take_next {p : UInt8 → Bool} {l : List UInt8} {k : Nat} (h : (l.take k).all p = true) (hk : k < l.length) (hp : p l[k] = true) : (l.take (k + 1)).all p = true := by
  rw [List.take_succ_eq_append_getElem hk, List.all_append, h]
  simp [hp]
theorem not_all_here {p : UInt8 → Bool} {l : List UInt8} {k : Nat} (hk : k < l.length) (hp : p l[k] = false) : l.all p = false := by
  rw [List.all_eq_false]
  exact ⟨l[k], List.getElem_mem hk, by rw [hp]; decide⟩
theorem code_size {s : ByteArray} (h : codeS s = true) : s.size = 3 := by
  unfold codeS at h
  rw [Bool.and_eq_true] at h
  exact of_decide_eq_true h.2
/-- why element i of a bag is wrong -/
def bagAt (can : ByteArray → Bool) (u v : Nat → ByteArray) (i : Nat) : Int :=
  if codeS (u i) = false then 23 else if can (v i) = false then 1 else if v i = ⟨#[]⟩ then 11 else if 0 < i ∧ bl (u (i - 1)) (u i) = false then 8 else 0
def bagE (can : ByteArray → Bool) (n : Nat) (u v : Nat → ByteArray) : Int := if 16 < n then 4 else firstE (bagAt can u v) n
structure GoodB (can : ByteArray → Bool) (n : Nat) (u v : Nat → ByteArray) : Prop where
  few : n ≤ 16
  code : ∀ i, i < n → codeS (u i) = true
  can : ∀ i, i < n → can (v i) = true
  nz : ∀ i, i < n → v i ≠ ⟨#[]⟩
  asc : ∀ i, i + 1 < n → bl (u i) (u (i + 1)) = true
theorem bagAt_zero {can : ByteArray → Bool} {u v : Nat → ByteArray} {i : Nat} (h : bagAt can u v i = 0) : codeS (u i) = true ∧ can (v i) = true ∧ v i ≠ ⟨#[]⟩ ∧ (0 < i → bl (u (i - 1)) (u i) = true) := by
  unfold bagAt at h
  by_cases h1 : codeS (u i) = false
  · rw [if_pos h1] at h; exact absurd h (by decide)
  rw [if_neg h1] at h
  by_cases h2 : can (v i) = false
  · rw [if_pos h2] at h; exact absurd h (by decide)
  rw [if_neg h2] at h
  by_cases h3 : v i = ⟨#[]⟩
  · rw [if_pos h3] at h; exact absurd h (by decide)
  rw [if_neg h3] at h
  by_cases h4 : 0 < i ∧ bl (u (i - 1)) (u i) = false
  · rw [if_pos h4] at h; exact absurd h (by decide)
  refine ⟨by simpa using h1, by simpa using h2, h3, fun hi => ?_⟩
  cases g : bl (u (i - 1)) (u i) with
  | true => rfl
  | false => exact absurd ⟨hi, g⟩ h4
theorem bagE_zero {can : ByteArray → Bool} {n : Nat} {u v : Nat → ByteArray} (h : bagE can n u v = 0) : GoodB can n u v := by
  unfold bagE at h
  by_cases h1 : 16 < n
  · rw [if_pos h1] at h; exact absurd h (by decide)
  rw [if_neg h1] at h
  have h2 := firstE_zero.1 h
  refine ⟨by omega, fun i hi => (bagAt_zero (h2 i hi)).1, fun i hi => (bagAt_zero (h2 i hi)).2.1, fun i hi => (bagAt_zero (h2 i hi)).2.2.1, fun i hi => ?_⟩
  exact (bagAt_zero (h2 (i + 1) hi)).2.2.2 (by omega)
theorem GoodB.zero {can : ByteArray → Bool} {n : Nat} {u v : Nat → ByteArray} (h : GoodB can n u v) : bagE can n u v = 0 := by
  unfold bagE
  rw [if_neg (by have := h.few; omega)]
  refine firstE_zero.2 fun i hi => ?_
  unfold bagAt
  rw [if_neg (by rw [h.code i hi]; decide), if_neg (by rw [h.can i hi]; decide), if_neg (h.nz i hi), if_neg]
  rintro ⟨h1, h2⟩
  have := h.asc (i - 1) (by omega)
  rw [show i - 1 + 1 = i by omega, h2] at this
  exact absurd this (by decide)

/-- why element i of a table is wrong -/
def tabAt (c : Nat → ByteArray) (p : Nat → Int) (i : Nat) : Int :=
  if codeS (c i) = false then 23 else if p i < 0 ∨ 12 < p i then 2 else if (List.range i).any (fun k => decide (c k = c i)) = true then 5 else 0
def tabE (n : Nat) (c : Nat → ByteArray) (p : Nat → Int) : Int := if 16 < n then 4 else firstE (tabAt c p) n
structure GoodT (n : Nat) (c : Nat → ByteArray) (p : Nat → Int) : Prop where
  few : n ≤ 16
  code : ∀ i, i < n → codeS (c i) = true
  low : ∀ i, i < n → 0 ≤ p i
  high : ∀ i, i < n → p i ≤ 12
  diff : ∀ i k, k < i → i < n → c k ≠ c i
theorem tabAt_zero {c : Nat → ByteArray} {p : Nat → Int} {i : Nat} (h : tabAt c p i = 0) : codeS (c i) = true ∧ 0 ≤ p i ∧ p i ≤ 12 ∧ ∀ k, k < i → c k ≠ c i := by
  unfold tabAt at h
  by_cases h1 : codeS (c i) = false
  · rw [if_pos h1] at h; exact absurd h (by decide)
  rw [if_neg h1] at h
  by_cases h2 : p i < 0 ∨ 12 < p i
  · rw [if_pos h2] at h; exact absurd h (by decide)
  rw [if_neg h2] at h
  by_cases h3 : (List.range i).any (fun k => decide (c k = c i)) = true
  · rw [if_pos h3] at h; exact absurd h (by decide)
  refine ⟨by simpa using h1, by omega, by omega, fun k hk e => h3 (List.any_eq_true.2 ⟨k, List.mem_range.2 hk, decide_eq_true e⟩)⟩
theorem tabE_zero {n : Nat} {c : Nat → ByteArray} {p : Nat → Int} (h : tabE n c p = 0) : GoodT n c p := by
  unfold tabE at h
  by_cases h1 : 16 < n
  · rw [if_pos h1] at h; exact absurd h (by decide)
  rw [if_neg h1] at h
  have h2 := firstE_zero.1 h
  exact ⟨by omega, fun i hi => (tabAt_zero (h2 i hi)).1, fun i hi => (tabAt_zero (h2 i hi)).2.1, fun i hi => (tabAt_zero (h2 i hi)).2.2.1, fun i k hk hi => (tabAt_zero (h2 i hi)).2.2.2 k hk⟩
theorem GoodT.zero {n : Nat} {c : Nat → ByteArray} {p : Nat → Int} (h : GoodT n c p) : tabE n c p = 0 := by
  unfold tabE
  rw [if_neg (by have := h.few; omega)]
  refine firstE_zero.2 fun i hi => ?_
  have h1 := h.low i hi
  have h2 := h.high i hi
  unfold tabAt
  rw [if_neg (by rw [h.code i hi]; decide), if_neg (by omega), if_neg]
  intro hh
  obtain ⟨k, hk, e⟩ := List.any_eq_true.1 hh
  exact h.diff i k (List.mem_range.1 hk) hi (of_decide_eq_true e)
/-- the first index below n that fulfills P; or none -/
def idx (P : Nat → Bool) : Nat → Option Nat
  | 0 => none
  | n + 1 => match idx P n with
    | some i => some i
    | none => if P n = true then some n else none
theorem idx_none {P : Nat → Bool} : ∀ {n : Nat}, idx P n = none ↔ ∀ i, i < n → P i = false
  | 0 => ⟨fun _ _ h => absurd h (by omega), fun _ => rfl⟩
  | n + 1 => by
    unfold idx
    cases h : idx P n with
    | some k =>
      refine ⟨fun g => by simp at g, fun g => ?_⟩
      have := idx_none.2 fun i hi => g i (Nat.lt_succ_of_lt hi)
      rw [h] at this
      exact absurd this (by simp)
    | none =>
      have hn := idx_none.1 h
      dsimp only
      constructor
      · intro g i hi
        by_cases e : i = n
        · subst e
          cases q : P i with
          | false => rfl
          | true => rw [if_pos q] at g; exact absurd g (by simp)
        · exact hn i (by omega)
      · intro g
        rw [if_neg (by rw [g n (by omega)]; decide)]
theorem idx_some {P : Nat → Bool} {k : Nat} (hk : P k = true) (h : ∀ i, i < k → P i = false) : ∀ {n : Nat}, k < n → idx P n = some k
  | 0, hn => absurd hn (by omega)
  | n + 1, hn => by
    unfold idx
    by_cases e : k = n
    · subst e
      rw [idx_none.2 h, if_pos hk]
    · rw [idx_some hk h (n := n) (by omega)]
theorem idx_is {P : Nat → Bool} : ∀ {n k : Nat}, idx P n = some k → k < n ∧ P k = true ∧ ∀ i, i < k → P i = false
  | 0, _, h => by simp [idx] at h
  | n + 1, k, h => by
    unfold idx at h
    cases q : idx P n with
    | some j =>
      rw [q] at h
      injection h with h
      subst h
      obtain ⟨a, b, c⟩ := idx_is q
      exact ⟨by omega, b, c⟩
    | none =>
      rw [q] at h
      dsimp only at h
      by_cases e : P n = true
      · rw [if_pos e] at h
        injection h with h
        subst h
        exact ⟨by omega, e, idx_none.1 q⟩
      · rw [if_neg e] at h; exact absurd h (by simp)

end Go.Proofs.YtahnkmkmoalbhaaGreatDoor

/- Plain mathematics of layer 5: an amount is put into a bag, one element after the other. -/
namespace Go.Proofs.YtahnkmkmoalbhaaGreatDoor

theorem put_app {c : ByteArray} {x : Int} (hx : x ≠ 0) (r : Bag) : ∀ a : Bag, (∀ p, p ∈ a → bl p.1 c = true) → put (a ++ r) c x = a ++ put r c x
  | [], _ => rfl
  | p :: a, h => by
    show put (p :: (a ++ r)) c x = p :: (a ++ put r c x)
    rw [put, if_neg hx, if_pos (h p (by simp)), put_app hx r a fun q hq => h q (by simp [hq])]
/-- where the loop stands: out, when i elements have been looked at -/
def WithS (b : Bag) (c : ByteArray) (x : Int) (i : Nat) (done : Bool) (out : Bag) : Prop :=
  if done = true then out ++ b.drop i = put b c x else x ≠ 0 ∧ out = b.take i ∧ ∀ p, p ∈ b.take i → bl p.1 c = true
theorem with_zero (b : Bag) (c : ByteArray) : WithS b c 0 0 true [] := by
  unfold WithS
  rw [if_pos rfl, put_zero]
  simp
theorem with_start {b : Bag} {c : ByteArray} {x : Int} (hx : x ≠ 0) : WithS b c x 0 false [] := by
  unfold WithS
  rw [if_neg (by decide)]
  exact ⟨hx, rfl, fun p h => absurd h (by simp)⟩
theorem drop_at {b : Bag} {i : Nat} {p : ByteArray × Int} (h : b[i]? = some p) : b.drop i = p :: b.drop (i + 1) := by
  obtain ⟨hl, e⟩ := List.getElem?_eq_some_iff.1 h
  rw [List.drop_eq_getElem_cons hl, e]
theorem take_at {b : Bag} {i : Nat} {p : ByteArray × Int} (h : b[i]? = some p) : b.take (i + 1) = b.take i ++ [p] := by
  obtain ⟨hl, e⟩ := List.getElem?_eq_some_iff.1 h
  rw [List.take_succ_eq_append_getElem hl, e]
theorem split_at {b : Bag} {i : Nat} {p : ByteArray × Int} (h : b[i]? = some p) : b = b.take i ++ p :: b.drop (i + 1) := by
  rw [← drop_at h, List.take_append_drop]
/-- behind the place: what is there is kept -/
theorem with_done {b : Bag} {c : ByteArray} {x : Int} {i : Nat} {out : Bag} {p : ByteArray × Int} (h : WithS b c x i true out) (hp : b[i]? = some p) : WithS b c x (i + 1) true (out ++ [p]) := by
  unfold WithS at *
  rw [if_pos rfl] at *
  rw [drop_at hp] at h
  rw [List.append_assoc]
  exact h
theorem with_less {b : Bag} {c : ByteArray} {x : Int} {i : Nat} {out : Bag} {p : ByteArray × Int} (h : WithS b c x i false out) (hp : b[i]? = some p) (hl : bl p.1 c = true) : WithS b c x (i + 1) false (out ++ [p]) := by
  unfold WithS at *
  rw [if_neg (by decide)] at *
  obtain ⟨h1, rfl, h3⟩ := h
  rw [take_at hp]
  refine ⟨h1, rfl, fun q hq => ?_⟩
  rcases List.mem_append.1 hq with hq | hq
  · exact h3 q hq
  · simp at hq; rw [hq]; exact hl
theorem with_same {b : Bag} {c : ByteArray} {x : Int} {i : Nat} {out : Bag} {p : ByteArray × Int} (h : WithS b c x i false out) (hp : b[i]? = some p) (he : p.1 = c) (hz : p.2 + x ≠ 0) : WithS b c x (i + 1) true (out ++ [(c, p.2 + x)]) := by
  unfold WithS at *
  rw [if_neg (by decide)] at h
  rw [if_pos rfl]
  obtain ⟨h1, rfl, h3⟩ := h
  conv => rhs; rw [split_at hp]
  rw [put_app h1 _ _ h3, put, if_neg h1, if_neg (by rw [he, bl_irr]; decide), if_pos he, if_neg hz, List.append_assoc]
  rfl
theorem with_gone {b : Bag} {c : ByteArray} {x : Int} {i : Nat} {out : Bag} {p : ByteArray × Int} (h : WithS b c x i false out) (hp : b[i]? = some p) (he : p.1 = c) (hz : p.2 + x = 0) : WithS b c x (i + 1) true out := by
  unfold WithS at *
  rw [if_neg (by decide)] at h
  rw [if_pos rfl]
  obtain ⟨h1, rfl, h3⟩ := h
  conv => rhs; rw [split_at hp]
  rw [put_app h1 _ _ h3, put, if_neg h1, if_neg (by rw [he, bl_irr]; decide), if_pos he, if_pos hz]
theorem with_more {b : Bag} {c : ByteArray} {x : Int} {i : Nat} {out : Bag} {p : ByteArray × Int} (h : WithS b c x i false out) (hp : b[i]? = some p) (hn : bl p.1 c = false) (he : p.1 ≠ c) : WithS b c x (i + 1) true (out ++ [(c, x)] ++ [p]) := by
  unfold WithS at *
  rw [if_neg (by decide)] at h
  rw [if_pos rfl]
  obtain ⟨h1, rfl, h3⟩ := h
  conv => rhs; rw [split_at hp]
  rw [put_app h1 _ _ h3, put, if_neg h1, if_neg (by rw [hn]; decide), if_neg he, List.append_assoc, List.append_assoc]
  rfl
theorem with_end {b : Bag} {c : ByteArray} {x : Int} {out : Bag} (h : WithS b c x b.length true out) : out = put b c x := by
  unfold WithS at h
  rw [if_pos rfl] at h
  simpa using h
theorem with_last {b : Bag} {c : ByteArray} {x : Int} {out : Bag} (h : WithS b c x b.length false out) : out ++ [(c, x)] = put b c x := by
  unfold WithS at h
  rw [if_neg (by decide)] at h
  obtain ⟨h1, rfl, h3⟩ := h
  have h4 := put_app (c := c) (x := x) h1 [] (b.take b.length) h3
  rw [List.append_nil, List.take_length] at h4
  rw [h4, List.take_length, put, if_neg h1]
/-- the sum, one more -/
theorem addB_next (a b : Bag) {i : Nat} {p : ByteArray × Int} (h : b[i]? = some p) : addB a (b.take (i + 1)) = put (addB a (b.take i)) p.1 p.2 := by
  rw [take_at h]
  unfold addB
  rw [List.foldl_append]
  rfl
theorem put_len (b : Bag) (c : ByteArray) (x : Int) : (put b c x).length ≤ b.length + 1 := by
  induction b with
  | nil => unfold put; split <;> simp
  | cons p r ih =>
    unfold put
    split
    · simp
    · split
      · simp; omega
      · split
        · split
          · simp; omega
          · simp
        · simp
theorem addB_len (a b : Bag) : (addB a b).length ≤ a.length + b.length := by
  induction b generalizing a with
  | nil => simp [addB]
  | cons p r ih =>
    have h1 := ih (put a p.1 p.2)
    have h2 := put_len a p.1 p.2
    show (addB (put a p.1 p.2) r).length ≤ _
    simp
    omega
/-- what is known of every amount stays known -/
theorem put_all {P : Int → Prop} {b : Bag} {c : ByteArray} {x : Int} (h : ∀ p, p ∈ b → P p.2) (hx : P x) (hs : ∀ p, p ∈ b → P (p.2 + x)) : ∀ p, p ∈ put b c x → P p.2 := by
  induction b with
  | nil =>
    unfold put
    split
    · exact h
    · intro p hp; simp at hp; rw [hp]; exact hx
  | cons q r ih =>
    have ih' := ih (fun p hp => h p (by simp [hp])) (fun p hp => hs p (by simp [hp]))
    unfold put
    split
    · exact h
    · split
      · intro p hp
        rcases List.mem_cons.1 hp with rfl | hp
        · exact h p (by simp)
        · exact ih' p hp
      · split
        · split
          · intro p hp; exact h p (by simp [hp])
          · intro p hp
            rcases List.mem_cons.1 hp with rfl | hp
            · exact hs q (by simp)
            · exact h p (by simp [hp])
        · intro p hp
          rcases List.mem_cons.1 hp with rfl | hp
          · exact hx
          · exact h p hp

end Go.Proofs.YtahnkmkmoalbhaaGreatDoor

/- Plain mathematics of layer 5: two bags are walked side by side. -/
namespace Go.Proofs.YtahnkmkmoalbhaaGreatDoor

/-- an amount, if it is one -/
def keepL (c : ByteArray) (z : Int) : Bag := if z = 0 then [] else [(c, z)]
theorem amt_app {S : Bag} {c : ByteArray} {z : Int} (h : ∀ p, p ∈ S → bl p.1 c = true) (d : ByteArray) : amt (S ++ keepL c z) d = amt S d + if c = d then z else 0 := by
  induction S with
  | nil =>
    unfold keepL
    by_cases hz : z = 0
    · rw [if_pos hz, hz]; split <;> rfl
    · rw [if_neg hz]
      show (if c = d then z else amt [] d) = 0 + _
      split <;> simp [amt]
  | cons p r ih =>
    show amt (p :: (r ++ keepL c z)) d = amt (p :: r) d + _
    rw [amt.eq_2, amt.eq_2, ih fun q hq => h q (by simp [hq])]
    by_cases hp : p.1 = d
    · rw [if_pos hp, if_pos hp, if_neg fun e => bl_ne (h p (by simp)) (by rw [hp, e])]
      omega
    · rw [if_neg hp, if_neg hp]
theorem keep_mem {c : ByteArray} {z : Int} {p : ByteArray × Int} (h : p ∈ keepL c z) : p.1 = c ∧ p.2 ≠ 0 := by
  unfold keepL at h
  by_cases hz : z = 0
  · rw [if_pos hz] at h; exact absurd h (by simp)
  · rw [if_neg hz] at h
    obtain rfl := List.mem_singleton.1 h
    exact ⟨rfl, hz⟩
theorem keep_asc (c : ByteArray) (z : Int) : Asc (keepL c z) := by
  unfold keepL
  split
  · exact List.Pairwise.nil
  · exact List.pairwise_singleton _ _
/-- S has been made of what came before x in a and before y in b -/
structure MrgS (a b x y S : Bag) : Prop where
  ax : Asc x
  ay : Asc y
  sasc : Asc S
  nz : NZ S
  lx : ∀ p, p ∈ S → ∀ q, q ∈ x → bl p.1 q.1 = true
  ly : ∀ p, p ∈ S → ∀ q, q ∈ y → bl p.1 q.1 = true
  am : ∀ c, amt S c + amt x c + amt y c = amt a c + amt b c
variable {a b x y S x' y' : Bag}
theorem MrgS.start (ha : Asc a) (hb : Asc b) : MrgS a b a b [] :=
  ⟨ha, hb, List.Pairwise.nil, fun _ h => absurd h (by simp), fun _ h => absurd h (by simp), fun _ h => absurd h (by simp), fun c => by simp [amt]⟩
theorem MrgS.next (h : MrgS a b x y S) (c : ByteArray) (z : Int) (ax : Asc x') (ay : Asc y') (hx : ∀ q, q ∈ x' → q ∈ x ∧ bl c q.1 = true) (hy : ∀ q, q ∈ y' → q ∈ y ∧ bl c q.1 = true) (hS : ∀ p, p ∈ S → bl p.1 c = true)
    (hm : ∀ d, amt x d + amt y d = (if c = d then z else 0) + amt x' d + amt y' d) : MrgS a b x' y' (S ++ keepL c z) := by
  refine ⟨ax, ay, List.pairwise_append.2 ⟨h.sasc, keep_asc c z, fun p hp q hq => by rw [(keep_mem hq).1]; exact hS p hp⟩, fun p hp => ?_, fun p hp q hq => ?_, fun p hp q hq => ?_, fun d => ?_⟩
  · rcases List.mem_append.1 hp with g | g
    · exact h.nz p g
    · exact (keep_mem g).2
  · rcases List.mem_append.1 hp with g | g
    · exact h.lx p g q (hx q hq).1
    · rw [(keep_mem g).1]; exact (hx q hq).2
  · rcases List.mem_append.1 hp with g | g
    · exact h.ly p g q (hy q hq).1
    · rw [(keep_mem g).1]; exact (hy q hq).2
  · rw [amt_app hS]
    have h1 := h.am d
    have h2 := hm d
    omega
theorem MrgS.left {p : ByteArray × Int} (h : MrgS a b (p :: x) y S) (hy : ∀ q, q ∈ y → bl p.1 q.1 = true) : MrgS a b x y (S ++ keepL p.1 p.2) := by
  refine h.next p.1 p.2 h.ax.tail h.ay (fun q hq => ⟨by simp [hq], h.ax.head q hq⟩) (fun q hq => ⟨hq, hy q hq⟩) (fun q hq => h.lx q hq p (by simp)) fun d => ?_
  rw [amt.eq_2]
  by_cases e : p.1 = d
  · rw [if_pos e, if_pos e]
    have := amt_same h.ax
    rw [e] at this
    omega
  · rw [if_neg e, if_neg e]; omega
theorem MrgS.right {q : ByteArray × Int} (h : MrgS a b x (q :: y) S) (hx : ∀ p, p ∈ x → bl q.1 p.1 = true) : MrgS a b x y (S ++ keepL q.1 q.2) := by
  refine h.next q.1 q.2 h.ax h.ay.tail (fun p hp => ⟨hp, hx p hp⟩) (fun p hp => ⟨by simp [hp], h.ay.head p hp⟩) (fun p hp => h.ly p hp q (by simp)) fun d => ?_
  rw [amt.eq_2]
  by_cases e : q.1 = d
  · rw [if_pos e, if_pos e]
    have := amt_same h.ay
    rw [e] at this
    omega
  · rw [if_neg e, if_neg e]; omega
theorem MrgS.both {p q : ByteArray × Int} (h : MrgS a b (p :: x) (q :: y) S) (e : p.1 = q.1) : MrgS a b x y (S ++ keepL q.1 (p.2 + q.2)) := by
  refine h.next q.1 (p.2 + q.2) h.ax.tail h.ay.tail (fun r hr => ⟨by simp [hr], by rw [← e]; exact h.ax.head r hr⟩) (fun r hr => ⟨by simp [hr], h.ay.head r hr⟩) (fun r hr => h.ly r hr q (by simp)) fun d => ?_
  rw [amt.eq_2, amt.eq_2]
  by_cases e2 : q.1 = d
  · rw [if_pos (e.trans e2), if_pos e2, if_pos e2]
    have h1 := amt_same h.ax
    have h2 := amt_same h.ay
    rw [e, e2] at h1
    rw [e2] at h2
    omega
  · rw [if_neg (fun g => e2 (e.symm.trans g)), if_neg e2, if_neg e2]; omega
theorem MrgS.done (h : MrgS a b [] [] S) (ha : Asc a) (na : NZ a) (hb : Asc b) : S = addB a b :=
  bag_uniq h.sasc h.nz (addB_asc ha) (addB_nz na) fun c => by
    rw [addB_amt ha hb]
    have := h.am c
    simpa [amt] using this

/-! ### Over rows -/
/-- what is left of a row -/
def leftR (n : Nat) (u : Nat → ByteArray) (x : Nat → Int) (i : Nat) : Bag := (bagL n u x).drop i
theorem leftR_at {n i : Nat} {u : Nat → ByteArray} {x : Nat → Int} (h : i < n) : leftR n u x i = (u i, x i) :: leftR n u x (i + 1) := drop_at (bagL_at h)
theorem leftR_end {n i : Nat} {u : Nat → ByteArray} {x : Nat → Int} (h : n ≤ i) : leftR n u x i = [] := List.drop_eq_nil_of_le (by rw [bagL_len]; exact h)
/-- the three ways -/
inductive MWay (n m : Nat) (u s : Nat → ByteArray) (i j : Nat) : Prop where
  | left (hi : i < n) (h : m ≤ j ∨ (j < m ∧ bl (u i) (s j) = true))
  | right (hj : j < m) (h : n ≤ i ∨ (i < n ∧ bl (u i) (s j) = false ∧ u i ≠ s j))
  | both (hi : i < n) (hj : j < m) (h : u i = s j)
theorem mway (n m : Nat) (u s : Nat → ByteArray) (i j : Nat) (h : i < n ∨ j < m) : MWay n m u s i j := by
  by_cases hi : i < n
  · by_cases hj : j < m
    · cases hb : bl (u i) (s j) with
      | true => exact .left hi (Or.inr ⟨hj, hb⟩)
      | false =>
        by_cases e : u i = s j
        · exact .both hi hj e
        · exact .right hj (Or.inr ⟨hi, hb, e⟩)
    · exact .left hi (Or.inl (by omega))
  · exact .right (by omega) (Or.inl (by omega))
theorem MrgS.leftAt {n m i j : Nat} {u s : Nat → ByteArray} {xv yv : Nat → Int} (h : MrgS a b (leftR n u xv i) (leftR m s yv j) S) (hi : i < n) (hw : m ≤ j ∨ (j < m ∧ bl (u i) (s j) = true)) :
    MrgS a b (leftR n u xv (i + 1)) (leftR m s yv j) (S ++ keepL (u i) (xv i)) := by
  rw [leftR_at hi] at h
  refine h.left fun q hq => ?_
  rcases hw with g | ⟨hj, hb⟩
  · rw [leftR_end g] at hq; exact absurd hq (by simp)
  · have hay := h.ay
    rw [leftR_at hj] at hq hay
    rcases List.mem_cons.1 hq with rfl | hq
    · exact hb
    · exact bl_trans hb (hay.head q hq)
theorem MrgS.rightAt {n m i j : Nat} {u s : Nat → ByteArray} {xv yv : Nat → Int} (h : MrgS a b (leftR n u xv i) (leftR m s yv j) S) (hj : j < m) (hw : n ≤ i ∨ (i < n ∧ bl (u i) (s j) = false ∧ u i ≠ s j)) :
    MrgS a b (leftR n u xv i) (leftR m s yv (j + 1)) (S ++ keepL (s j) (yv j)) := by
  rw [leftR_at hj] at h
  refine h.right fun q hq => ?_
  rcases hw with g | ⟨hi, hb, hne⟩
  · rw [leftR_end g] at hq; exact absurd hq (by simp)
  · have hb2 : bl (s j) (u i) = true := by
      cases g : bl (s j) (u i) with
      | true => rfl
      | false => exact absurd (bl_tri hb g) hne
    have hax := h.ax
    rw [leftR_at hi] at hq hax
    rcases List.mem_cons.1 hq with rfl | hq
    · exact hb2
    · exact bl_trans hb2 (hax.head q hq)
theorem MrgS.bothAt {n m i j : Nat} {u s : Nat → ByteArray} {xv yv : Nat → Int} (h : MrgS a b (leftR n u xv i) (leftR m s yv j) S) (hi : i < n) (hj : j < m) (he : u i = s j) :
    MrgS a b (leftR n u xv (i + 1)) (leftR m s yv (j + 1)) (S ++ keepL (s j) (xv i + yv j)) := by
  rw [leftR_at hi, leftR_at hj] at h
  exact h.both he

end Go.Proofs.YtahnkmkmoalbhaaGreatDoor

/- Plain mathematics of layer 5: the last space of a text. -/
namespace Go.Proofs.YtahnkmkmoalbhaaGreatDoor

/-- s ends with a space and a code: m bytes stand before them -/
structure ParP (s : ByteArray) (m : Nat) : Prop where
  size : s.size = m + 4
  space : s[m]'(by omega) = 32
  code : codeS (s.extract (m + 1) s.size) = true
theorem data_get! {s : ByteArray} {i : Nat} (h : i < s.size) : s.data[i]! = s[i]'h := getElem!_pos s.data i h
theorem code_let {x : ByteArray} (h : codeS x = true) {i : Nat} (hi : i < x.size) : isLet (x[i]'hi) = true := by
  unfold codeS at h
  rw [Bool.and_eq_true] at h
  exact List.all_eq_true.1 h.1 _ (Array.mem_toList_iff.2 (Array.getElem_mem hi))
theorem last_good {s : ByteArray} {m : Nat} (h : ParP s m) : Lib.lastIndexByte s 32 = m := by
  have hs := h.size
  rcases Lib.lastIndexByte_spec s 32 with ⟨_, hn⟩ | ⟨k, hk, e, hc, hn⟩
  · have := hn m (by omega)
    rw [data_get! (show m < s.size by omega), h.space] at this
    exact absurd rfl this
  · rw [e]
    by_cases h1 : k = m
    · rw [h1]
    by_cases h2 : k < m
    · have := hn m h2 (by omega)
      rw [data_get! (show m < s.size by omega), h.space] at this
      exact absurd rfl this
    · have hx : k - (m + 1) < (s.extract (m + 1) s.size).size := by rw [ByteArray.size_extract]; omega
      have hl := code_let h.code hx
      rw [ByteArray.getElem_extract] at hl
      rw [data_get! hk] at hc
      have e2 : m + 1 + (k - (m + 1)) = k := by omega
      simp only [e2] at hl
      unfold isLet at hl
      have := of_decide_eq_true hl
      omega
end Go.Proofs.YtahnkmkmoalbhaaGreatDoor

/- Plain mathematics of layer 5: amounts put in any order; bags with the same amounts. -/
namespace Go.Proofs.YtahnkmkmoalbhaaGreatDoor

/-- f 0 + .. + f (n - 1) -/
def sumZ (f : Nat → Int) : Nat → Int
  | 0 => 0
  | n + 1 => sumZ f n + f n
theorem sumZ_congr {f g : Nat → Int} : ∀ {n : Nat}, (∀ i, i < n → f i = g i) → sumZ f n = sumZ g n
  | 0, _ => rfl
  | n + 1, h => by
    unfold sumZ
    rw [sumZ_congr fun i hi => h i (by omega), h n (by omega)]
theorem sumZ_shift (f : Nat → Int) : ∀ n : Nat, sumZ f (n + 1) = f 0 + sumZ (fun i => f (i + 1)) n
  | 0 => by simp [sumZ]
  | n + 1 => by
    rw [sumZ, sumZ_shift f n, sumZ]
    omega
theorem sumZ_back (f : Nat → Int) : ∀ n : Nat, sumZ (fun i => f (n - 1 - i)) n = sumZ f n
  | 0 => rfl
  | n + 1 => by
    rw [sumZ_shift (fun i => f (n + 1 - 1 - i)) n]
    have h := sumZ_back f n
    have e : sumZ (fun i => f (n + 1 - 1 - (i + 1))) n = sumZ (fun i => f (n - 1 - i)) n := sumZ_congr fun i hi => by
      show f _ = f _
      rw [show n + 1 - 1 - (i + 1) = n - 1 - i by omega]
    rw [e, h]
    show f (n + 1 - 1 - 0) + sumZ f n = sumZ f n + f n
    rw [show n + 1 - 1 - 0 = n by omega]
    omega
theorem sumZ_turn (f : Nat → Int) (n : Nat) : sumZ (fun i => f ((i + 1) % n)) n = sumZ f n := by
  cases n with
  | zero => rfl
  | succ n =>
    rw [sumZ_shift f n, sumZ]
    have e : sumZ (fun i => f ((i + 1) % (n + 1))) n = sumZ (fun i => f (i + 1)) n := sumZ_congr fun i hi => by
      show f _ = f _
      rw [Nat.mod_eq_of_lt (by omega)]
    rw [e, Nat.mod_self]
    omega
theorem sumZ_turns (f : Nat → Int) (n : Nat) : ∀ by' : Nat, sumZ (fun i => f ((i + by') % n)) n = sumZ f n
  | 0 => sumZ_congr fun i hi => by show f _ = f _; rw [Nat.add_zero, Nat.mod_eq_of_lt hi]
  | b + 1 => by
    have h := sumZ_turns f n b
    rw [← h, ← sumZ_turn (fun i => f ((i + b) % n)) n]
    refine sumZ_congr fun i hi => ?_
    show f _ = f _
    rw [Nat.mod_add_mod, show i + (b + 1) = i + 1 + b by omega]
/-- the same numbers, from the last one on, begun elsewhere -/
theorem sumZ_order (f : Nat → Int) (n by' : Nat) : sumZ (fun i => f ((n - 1 - i + by') % n)) n = sumZ f n := by
  rw [sumZ_back (fun j => f ((j + by') % n)) n]
  exact sumZ_turns f n by'

/-- k amounts put one after the other -/
def putAll (g : Nat → ByteArray × Int) : Nat → Bag
  | 0 => []
  | k + 1 => put (putAll g k) (g k).1 (g k).2
theorem putAll_asc (g : Nat → ByteArray × Int) : ∀ k, Asc (putAll g k)
  | 0 => List.Pairwise.nil
  | k + 1 => put_asc (putAll_asc g k) _ _
theorem putAll_nz (g : Nat → ByteArray × Int) : ∀ k, NZ (putAll g k)
  | 0 => fun _ h => absurd h (by simp [putAll])
  | k + 1 => put_nz (putAll_nz g k) _ _
theorem putAll_amt (g : Nat → ByteArray × Int) (c : ByteArray) : ∀ k, amt (putAll g k) c = sumZ (fun i => if (g i).1 = c then (g i).2 else 0) k
  | 0 => rfl
  | k + 1 => by rw [putAll, put_amt (putAll_asc g k), putAll_amt g c k]; rfl
theorem putAll_len (g : Nat → ByteArray × Int) : ∀ k, (putAll g k).length ≤ k
  | 0 => by simp [putAll]
  | k + 1 => by
    have := putAll_len g k
    have h := put_len (putAll g k) (g k).1 (g k).2
    rw [putAll]
    omega
/-- in any order: the same bag -/
theorem putAll_order (g : Nat → ByteArray × Int) (n by' : Nat) : putAll (fun i => g ((n - 1 - i + by') % n)) n = putAll g n :=
  bag_uniq (putAll_asc _ n) (putAll_nz _ n) (putAll_asc g n) (putAll_nz g n) fun c => by
    rw [putAll_amt, putAll_amt]
    exact sumZ_order (fun i => if (g i).1 = c then (g i).2 else 0) n by'
theorem putAll_code {g : Nat → ByteArray × Int} {P : ByteArray → Prop} : ∀ k, (∀ i, i < k → P (g i).1) → ∀ p, p ∈ putAll g k → P p.1
  | 0, _ => fun _ h => absurd h (by simp [putAll])
  | k + 1, h => fun p hp => by
    rcases put_codes p hp with e | ⟨y, hy, e⟩
    · rw [e]; exact h k (by omega)
    · rw [← e]; exact putAll_code k (fun i hi => h i (by omega)) y hy
theorem putAll_cap {M : Nat} {g : Nat → ByteArray × Int} : ∀ k, (∀ i, i < k → (g i).2.natAbs ≤ M) → ∀ p, p ∈ putAll g k → p.2.natAbs ≤ k * M
  | 0, _ => fun _ h => absurd h (by simp [putAll])
  | k + 1, h => by
    have ih := putAll_cap (g := g) k fun i hi => h i (by omega)
    have hx := h k (by omega)
    have e : (k + 1) * M = k * M + M := Nat.succ_mul k M
    exact put_all (P := fun z => z.natAbs ≤ (k + 1) * M) (fun p hp => by have := ih p hp; show p.2.natAbs ≤ _; omega) (by show (g k).2.natAbs ≤ _; have : 0 ≤ k * M := Nat.zero_le _; omega) (fun p hp => by
      have := ih p hp
      show (p.2 + (g k).2).natAbs ≤ _
      omega)
end Go.Proofs.YtahnkmkmoalbhaaGreatDoor

/- Two strings in a block: what layer 2 has of them; one answer drawn. -/
namespace Go.Proofs.YtahnkmkmoalbhaaGreatDoor
open Go.RowKit

theorem below_drew {B : Nat} {a w : World} (h : Below B a w) : Below B a w.drew := below_drewN h 1

end Go.Proofs.YtahnkmkmoalbhaaGreatDoor

/- Layer 5: bags and tables in memory: read, appended to. -/
namespace Go.Proofs.YtahnkmkmoalbhaaGreatDoor
open Go.RowKit

theorem info_Money : (Tryz.prog.info? 35).map (fun i => (i.zero, i.size, i.bytes)) = some (some (.agg #[.string ⟨#[]⟩, .string ⟨#[]⟩]), 2, 32) := by kernel_rfl
/-- the slice value x owns n amounts of money -/
abbrev OwnM (w : World) (base : Nat) (x : Value) (n : Nat) (u v : Nat → ByteArray) : Prop := OwnC w base 35 2 x n fun i => .string (if i % 2 = 0 then u (i / 2) else v (i / 2))
theorem OwnM.add {w : World} {base : Nat} {x : Value} {n : Nat} {u v : Nat → ByteArray} (h : OwnM w base x n u v) (g : Nat) (hg : w.cell? ⟨g, 0, none⟩ = some (.string (u n))) (hg1 : w.cell? ⟨g, 1, none⟩ = some (.string (v n))) (ty : TypeId) (hs : n + 1 ≤ 10000000) (hb : base ≤ w.heap.size) :
    ∃ v' w', (Builtin.append_ #[32, 32] ty #[x, .slice (some ⟨g, 0, none⟩) 1 1]).run Tryz.prog w = .ok v' w' ∧ OwnM w' base v' (n + 1) u v ∧ Below base w w' ∧ w.grownBy w' x.ownBlock := by
  obtain ⟨i0, hi, hz0, hz1, hz2⟩ := info_parts info_Money
  obtain ⟨v', w', h1, h2, h3, _⟩ := run_append_own (P := Tryz.prog) w base 32 ty 35 i0 (.agg #[.string ⟨#[]⟩, .string ⟨#[]⟩]) 2 32 Tryz.underlying32 hi hz0 hz1 hz2 rfl (by decide) x n _ h ⟨g, 0, none⟩ 1 1 [.string (u n), .string (v n)] rfl
    (fun j y hj => by
      match j, hj with
      | 0, hj => simp at hj; subst hj; simpa [Addr.add] using hg
      | 1, hj => simp at hj; subst hj; simpa [Addr.add] using hg1
      | j + 2, hj => simp at hj)
    (fun y hy => by simp at hy; rcases hy with rfl | rfl <;> rfl) (by unfold maxLen; omega) (by omega) hb
  refine ⟨v', w', h1, ?_, (Below.refl base w).grown h3 hb (fun k hk => (World.ownsRow.lt h k hk).1), h3⟩
  unfold OwnM OwnC
  rw [show (n + 1) * 2 = n * 2 + 1 + 1 by omega, List.range_succ, List.range_succ, List.map_append, List.map_append, List.append_assoc]
  have e1 : (n * 2) % 2 = 0 := by omega
  have e2 : (n * 2) / 2 = n := by omega
  have e3 : (n * 2 + 1) % 2 ≠ 0 := by omega
  have e4 : (n * 2 + 1) / 2 = n := by omega
  simp only [List.map_cons, List.map_nil, if_pos e1, e2, if_neg e3, e4]
  exact h2

/-- a bag in memory -/
abbrev RB (w : World) (xa : Option Addr) (b : Bag) : Prop := Rf w xa b.length (atU b) fun i => cS (atX b i)
abbrev OB (w : World) (base : Nat) (x : Value) (b : Bag) : Prop := OwnM w base x b.length (atU b) fun i => cS (atX b i)
theorem atU_app {b : Bag} {p : ByteArray × Int} {i : Nat} (h : i < b.length) : atU (b ++ [p]) i = atU b i := by unfold atU; rw [List.getD_eq_getElem?_getD, List.getD_eq_getElem?_getD, List.getElem?_append_left h]
theorem atX_app {b : Bag} {p : ByteArray × Int} {i : Nat} (h : i < b.length) : atX (b ++ [p]) i = atX b i := by unfold atX; rw [List.getD_eq_getElem?_getD, List.getD_eq_getElem?_getD, List.getElem?_append_left h]
theorem atU_last {b : Bag} {p : ByteArray × Int} : atU (b ++ [p]) b.length = p.1 := by unfold atU; simp
theorem atX_last {b : Bag} {p : ByteArray × Int} : atX (b ++ [p]) b.length = p.2 := by unfold atX; simp
theorem at_some {b : Bag} {i : Nat} (h : i < b.length) : b[i]? = some (atU b i, atX b i) := by
  unfold atU atX
  rw [List.getD_eq_getElem?_getD, List.getElem?_eq_getElem h]
  rfl
theorem OB.nil (w : World) (base : Nat) : OB w base (.slice none 0 0) [] := OwnC.nil _ _ _ _ _
theorem OwnM.congr {w : World} {base : Nat} {x : Value} {n : Nat} {u v s t : Nat → ByteArray} (h : OwnM w base x n u v) (e : ∀ i, i < n → s i = u i ∧ t i = v i) : OwnM w base x n s t :=
  OwnC.congr h fun i hi => by
    have := e (i / 2) (by omega)
    show Value.string _ = Value.string _
    rw [this.1, this.2]
theorem OB.add {w : World} {base : Nat} {x : Value} {b : Bag} (h : OB w base x b) (p : ByteArray × Int) (g : Nat) (hg : w.cell? ⟨g, 0, none⟩ = some (.string p.1)) (hg1 : w.cell? ⟨g, 1, none⟩ = some (.string (cS p.2))) (ty : TypeId) (hs : b.length + 1 ≤ 10000000) (hb : base ≤ w.heap.size) :
    ∃ v' w', (Builtin.append_ #[32, 32] ty #[x, .slice (some ⟨g, 0, none⟩) 1 1]).run Tryz.prog w = .ok v' w' ∧ OB w' base v' (b ++ [p]) ∧ Below base w w' ∧ w.grownBy w' x.ownBlock := by
  have h1 : OwnM w base x b.length (atU (b ++ [p])) (fun i => cS (atX (b ++ [p]) i)) := OwnM.congr h fun i hi => ⟨atU_app hi, by rw [atX_app hi]⟩
  obtain ⟨v', w', e, hO, hB, hG⟩ := OwnM.add h1 g (by rw [atU_last]; exact hg) (by rw [atX_last]; exact hg1) ty hs hb
  refine ⟨v', w', e, ?_, hB, hG⟩
  show OwnM w' base v' (b ++ [p]).length _ _
  rw [List.length_append]
  exact hO
theorem wp_addMoney {w : World} {ops : Array Oper} {rest : List Oper} {o : Oper} {a : Act} {Q : Exit → Act → World → Prop} (hgd : o.guard = none) (sl x : Operand)
    (ho : o.op = .call { callee := .builtin .append, args := #[sl, x], argTypes := #[32, 32] })
    (base : Nat) (v : Value) (b : Bag) (p : ByteArray × Int) (hs : a.eval sl = v) (h : OB w base v b) (g : Nat) (hg : w.cell? ⟨g, 0, none⟩ = some (.string p.1)) (hg1 : w.cell? ⟨g, 1, none⟩ = some (.string (cS p.2))) (hx : a.eval x = .slice (some ⟨g, 0, none⟩) 1 1) (hl : b.length + 1 ≤ 10000000) (hb : base ≤ w.heap.size)
    (hK : ∀ v' w', OB w' base v' (b ++ [p]) → Below base w w' → w.grownBy w' v.ownBlock → wpList Tryz.prog ops Q rest (a.put o.dst v') w') : wpList Tryz.prog ops Q (o :: rest) a w := by
  refine wpList_plain hgd fun K hK' => ?_
  obtain ⟨v', w', hr, h2, h3, h4⟩ := OB.add h p g hg hg1 o.type hl hb
  unfold Oper.wp execOp
  simp only [ho, resolve, invoke, builtin, Sem.run_bind, Sem.run_pure, Result.andThen_ok, List.map_toArray, List.map_cons, List.map_nil, hs, hx, hr]
  exact hK' _ _ (hK v' w' h2 h3 h4)
/-- one append, behind its equation -/
theorem op_addMoney {w w' : World} {o : Oper} {a : Act} {K : Act → World → Prop} {Q : Exit → Act → World → Prop} {v v' y : Value} (sl x : Operand)
    (ho : o.op = .call { callee := .builtin .append, args := #[sl, x], argTypes := #[32, 32] }) (hs : a.eval sl = v) (hx : a.eval x = y)
    (hr : (Builtin.append_ #[32, 32] o.type #[v, y]).run Tryz.prog w = .ok v' w') (hK : K (a.put o.dst v') w') : Oper.wp Tryz.prog o a w K Q := by
  unfold Oper.wp execOp
  simp only [ho, resolve, invoke, builtin, Sem.run_bind, Sem.run_pure, Result.andThen_ok, List.map_toArray, List.map_cons, List.map_nil, hs, hx, hr]
  exact hK
theorem OB.rb {w : World} {base : Nat} {x : Value} {b : Bag} (h : OB w base x b) : ∃ xa cap, x = .slice xa b.length cap ∧ RB w xa b ∧ b.length ≤ cap ∧ cap ≤ maxLen := by
  obtain ⟨xa, cap, e, h1, h2, h3, _, _⟩ := OwnC.rc h
  exact ⟨xa, cap, e, h1, h2, h3⟩
/-- the bag of a row that is one -/
def rowB (n : Nat) (u v : Nat → ByteArray) : Bag := bagL n u fun i => vS (v i)
theorem atU_row {n i : Nat} {u : Nat → ByteArray} {x : Nat → Int} (h : i < n) : atU (bagL n u x) i = u i := by
  unfold atU; rw [List.getD_eq_getElem?_getD, bagL_at h]; rfl
theorem atX_row {n i : Nat} {u : Nat → ByteArray} {x : Nat → Int} (h : i < n) : atX (bagL n u x) i = x i := by
  unfold atX; rw [List.getD_eq_getElem?_getD, bagL_at h]; rfl
theorem RB.of {w : World} {xa : Option Addr} {n : Nat} {u v : Nat → ByteArray} (h : Rf w xa n u v) (hc : ∀ i, i < n → v i = cS (vS (v i))) : RB w xa (rowB n u v) := by
  unfold RB rowB
  rw [bagL_len]
  refine Rc.congr h fun i hi => ?_
  show Value.string _ = Value.string _
  dsimp only
  rw [atU_row (by omega), atX_row (by omega), ← hc (i / 2) (by omega)]

/-! ### Tables -/
/-- a table in memory -/
abbrev Rt (w : World) (xa : Option Addr) (n : Nat) (c : Nat → ByteArray) (p : Nat → Int) : Prop := Rc w xa (n * 2) fun i => if i % 2 = 0 then .string (c (i / 2)) else .int .i64 (p (i / 2))
theorem Rt.at {w : World} {xa : Option Addr} {n : Nat} {c : Nat → ByteArray} {p : Nat → Int} (h : Rt w xa n c p) {i : Nat} (hi : i < n) :
    ∃ b o, xa = some ⟨b, o, none⟩ ∧ b < w.heap.size ∧ w.cell? ⟨b, o + i * 2, none⟩ = some (.string (c i)) ∧ w.cell? ⟨b, o + i * 2 + 1, none⟩ = some (.int .i64 (p i)) := by
  obtain ⟨b, o, e, hl, hc⟩ := h.sl (by omega)
  have h1 := hc (i * 2) (by omega)
  have h2 := hc (i * 2 + 1) (by omega)
  rw [if_pos (by omega), show i * 2 / 2 = i by omega] at h1
  rw [if_neg (by omega), show (i * 2 + 1) / 2 = i by omega, ← Nat.add_assoc] at h2
  exact ⟨b, o, e, hl, h1, h2⟩

end Go.Proofs.YtahnkmkmoalbhaaGreatDoor
