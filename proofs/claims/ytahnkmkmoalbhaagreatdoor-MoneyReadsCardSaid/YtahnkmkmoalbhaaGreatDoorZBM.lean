/- Plain mathematics of layer 5: the first error of a row; bags and tables as rows. -/
import Derived.Test.YtahnkmkmoalbhaaGreatDoorZBD
import Derived.Test.YtahnkmkmoalbhaaGreatDoorZBF
import Derived.Test.YtahnkmkmoalbhaaGreatDoorZBH
import Derived.Test.YtahnkmkmoalbhaaGreatDoorZBL
import Derived.Laws.StructEq
import Derived.Lib.LastIndexByte
namespace Go.Proofs.YtahnkmkmoalbhaaGreatDoor

/-- the first of f 0 .. f (n - 1) that is not 0; or 0 -/
def firstE (f : Nat → Int) : Nat → Int
  | 0 => 0
  | n + 1 => if firstE f n = 0 then f n else firstE f n
theorem firstE_zero {f : Nat → Int} : ∀ {n : Nat}, firstE f n = 0 ↔ ∀ i, i < n → f i = 0
  | 0 => ⟨fun _ _ h => absurd h (by omega), fun _ => rfl⟩
  | n + 1 => by
    unfold firstE
    constructor
    · intro h i hi
      by_cases h0 : firstE f n = 0
      · rw [if_pos h0] at h
        by_cases e : i = n
        · rw [e]; exact h
        · exact firstE_zero.1 h0 i (by omega)
      · rw [if_neg h0] at h; exact absurd h h0
    · intro h
      have h0 : firstE f n = 0 := firstE_zero.2 fun i hi => h i (by omega)
      rw [if_pos h0]
      exact h n (by omega)
theorem firstE_at {f : Nat → Int} {k : Nat} (hk : f k ≠ 0) (h : ∀ i, i < k → f i = 0) : ∀ {n : Nat}, k < n → firstE f n = f k
  | 0, hn => absurd hn (by omega)
  | n + 1, hn => by
    unfold firstE
    by_cases e : k = n
    · subst e
      rw [if_pos (firstE_zero.2 h)]
    · have ih := firstE_at hk h (n := n) (by omega)
      rw [if_neg (by rw [ih]; exact hk), ih]
theorem firstE_congr {f g : Nat → Int} : ∀ {n : Nat}, (∀ i, i < n → f i = g i) → firstE f n = firstE g n
  | 0, _ => rfl
  | n + 1, h => by
    unfold firstE
    rw [firstE_congr fun i hi => h i (by omega), h n (by omega)]

/-- the pairs of a row -/
def bagL (n : Nat) (u : Nat → ByteArray) (x : Nat → Int) : Bag := (List.range n).map fun i => (u i, x i)
theorem bagL_len (n : Nat) (u : Nat → ByteArray) (x : Nat → Int) : (bagL n u x).length = n := by unfold bagL; simp
theorem bagL_at {n i : Nat} {u : Nat → ByteArray} {x : Nat → Int} (h : i < n) : (bagL n u x)[i]? = some (u i, x i) := by
  unfold bagL
  rw [List.getElem?_map, List.getElem?_range h]
  rfl
/-- a list as a row -/
def atU (b : Bag) (i : Nat) : ByteArray := (b.getD i (⟨#[]⟩, 0)).1
def atX (b : Bag) (i : Nat) : Int := (b.getD i (⟨#[]⟩, 0)).2
theorem bagL_of (b : Bag) : bagL b.length (atU b) (atX b) = b := by
  apply List.ext_getElem?
  intro i
  by_cases h : i < b.length
  · rw [bagL_at h]
    unfold atU atX
    rw [List.getD_eq_getElem?_getD, List.getElem?_eq_getElem h]
    rfl
  · rw [List.getElem?_eq_none (by rw [bagL_len]; omega), List.getElem?_eq_none (by omega)]
theorem bagL_asc {u : Nat → ByteArray} {x : Nat → Int} : ∀ {n : Nat}, (∀ i, i + 1 < n → bl (u i) (u (i + 1)) = true) → Asc (bagL n u x)
  | 0, _ => List.Pairwise.nil
  | n + 1, h => by
    have hlt : ∀ d i, i + d + 1 < n + 1 → bl (u i) (u (i + d + 1)) = true := fun d => by
      induction d with
      | zero => exact fun i hi => h i hi
      | succ d ih => exact fun i hi => bl_trans (ih i (by omega)) (h (i + d + 1) hi)
    unfold Asc bagL
    rw [List.pairwise_map]
    refine List.Pairwise.imp_of_mem ?_ (List.pairwise_lt_range (n := n + 1))
    intro a b ha hb hab
    have hb := List.mem_range.1 hb
    have := hlt (b - a - 1) a (by omega)
    rwa [show a + (b - a - 1) + 1 = b by omega] at this
theorem asc_bagL {u : Nat → ByteArray} {x : Nat → Int} {n : Nat} (h : Asc (bagL n u x)) {i : Nat} (hi : i + 1 < n) : bl (u i) (u (i + 1)) = true := by
  unfold Asc bagL at h
  rw [List.pairwise_map, List.pairwise_iff_getElem] at h
  have := h i (i + 1) (by simp; omega) (by simp; omega) (by omega)
  simpa using this
theorem bagL_nz {u : Nat → ByteArray} {x : Nat → Int} {n : Nat} : NZ (bagL n u x) ↔ ∀ i, i < n → x i ≠ 0 := by
  unfold NZ bagL
  constructor
  · intro h i hi
    exact h (u i, x i) (List.mem_map.2 ⟨i, List.mem_range.2 hi, rfl⟩)
  · intro h p hp
    obtain ⟨i, hi, rfl⟩ := List.mem_map.1 hp
    exact h i (List.mem_range.1 hi)

/-- letters A to Z -/
def isLet (b : UInt8) : Bool := decide (65 ≤ b.toNat ∧ b.toNat ≤ 90)
/-- three letters -/
def codeS (s : ByteArray) : Bool := s.data.toList.all isLet && decide (s.size = 3)
theorem all_take_next {p : UInt8 → Bool} {l : List UInt8} {k : Nat} (h : (l.take k).all p = true) (hk : k < l.length) (hp : p l[k] = true) : (l.take (k + 1)).all p = true := by
  rw [List.take_succ_eq_append_getElem hk, List.all_append, h]
  simp [hp]
theorem not_all_here {p : UInt8 → Bool} {l : List UInt8} {k : Nat} (hk : k < l.length) (hp : p l[k] = false) : l.all p = false := by
  rw [List.all_eq_false]
  exact ⟨l[k], List.getElem_mem hk, by rw [hp]; decide⟩
theorem code_size {s : ByteArray} (h : codeS s = true) : s.size = 3 := by
  unfold codeS at h
  rw [Bool.and_eq_true] at h
  exact of_decide_eq_true h.2
/-- why element i of a bag is wrong -/
def bagAt (can : ByteArray → Bool) (u v : Nat → ByteArray) (i : Nat) : Int :=
  if codeS (u i) = false then 23 else if can (v i) = false then 1 else if v i = ⟨#[]⟩ then 11 else if 0 < i ∧ bl (u (i - 1)) (u i) = false then 8 else 0
def bagE (can : ByteArray → Bool) (n : Nat) (u v : Nat → ByteArray) : Int := if 16 < n then 4 else firstE (bagAt can u v) n
structure GoodB (can : ByteArray → Bool) (n : Nat) (u v : Nat → ByteArray) : Prop where
  few : n ≤ 16
  code : ∀ i, i < n → codeS (u i) = true
  can : ∀ i, i < n → can (v i) = true
  nz : ∀ i, i < n → v i ≠ ⟨#[]⟩
  asc : ∀ i, i + 1 < n → bl (u i) (u (i + 1)) = true
theorem bagAt_zero {can : ByteArray → Bool} {u v : Nat → ByteArray} {i : Nat} (h : bagAt can u v i = 0) : codeS (u i) = true ∧ can (v i) = true ∧ v i ≠ ⟨#[]⟩ ∧ (0 < i → bl (u (i - 1)) (u i) = true) := by
  unfold bagAt at h
  by_cases h1 : codeS (u i) = false
  · rw [if_pos h1] at h; exact absurd h (by decide)
  rw [if_neg h1] at h
  by_cases h2 : can (v i) = false
  · rw [if_pos h2] at h; exact absurd h (by decide)
  rw [if_neg h2] at h
  by_cases h3 : v i = ⟨#[]⟩
  · rw [if_pos h3] at h; exact absurd h (by decide)
  rw [if_neg h3] at h
  by_cases h4 : 0 < i ∧ bl (u (i - 1)) (u i) = false
  · rw [if_pos h4] at h; exact absurd h (by decide)
  refine ⟨by simpa using h1, by simpa using h2, h3, fun hi => ?_⟩
  cases g : bl (u (i - 1)) (u i) with
  | true => rfl
  | false => exact absurd ⟨hi, g⟩ h4
theorem bagE_zero {can : ByteArray → Bool} {n : Nat} {u v : Nat → ByteArray} (h : bagE can n u v = 0) : GoodB can n u v := by
  unfold bagE at h
  by_cases h1 : 16 < n
  · rw [if_pos h1] at h; exact absurd h (by decide)
  rw [if_neg h1] at h
  have h2 := firstE_zero.1 h
  refine ⟨by omega, fun i hi => (bagAt_zero (h2 i hi)).1, fun i hi => (bagAt_zero (h2 i hi)).2.1, fun i hi => (bagAt_zero (h2 i hi)).2.2.1, fun i hi => ?_⟩
  exact (bagAt_zero (h2 (i + 1) hi)).2.2.2 (by omega)
theorem GoodB.zero {can : ByteArray → Bool} {n : Nat} {u v : Nat → ByteArray} (h : GoodB can n u v) : bagE can n u v = 0 := by
  unfold bagE
  rw [if_neg (by have := h.few; omega)]
  refine firstE_zero.2 fun i hi => ?_
  unfold bagAt
  rw [if_neg (by rw [h.code i hi]; decide), if_neg (by rw [h.can i hi]; decide), if_neg (h.nz i hi), if_neg]
  rintro ⟨h1, h2⟩
  have := h.asc (i - 1) (by omega)
  rw [show i - 1 + 1 = i by omega, h2] at this
  exact absurd this (by decide)

/-- why element i of a table is wrong -/
def tabAt (c : Nat → ByteArray) (p : Nat → Int) (i : Nat) : Int :=
  if codeS (c i) = false then 23 else if p i < 0 ∨ 12 < p i then 2 else if (List.range i).any (fun k => decide (c k = c i)) = true then 5 else 0
def tabE (n : Nat) (c : Nat → ByteArray) (p : Nat → Int) : Int := if 16 < n then 4 else firstE (tabAt c p) n
structure GoodT (n : Nat) (c : Nat → ByteArray) (p : Nat → Int) : Prop where
  few : n ≤ 16
  code : ∀ i, i < n → codeS (c i) = true
  low : ∀ i, i < n → 0 ≤ p i
  high : ∀ i, i < n → p i ≤ 12
  diff : ∀ i k, k < i → i < n → c k ≠ c i
theorem tabAt_zero {c : Nat → ByteArray} {p : Nat → Int} {i : Nat} (h : tabAt c p i = 0) : codeS (c i) = true ∧ 0 ≤ p i ∧ p i ≤ 12 ∧ ∀ k, k < i → c k ≠ c i := by
  unfold tabAt at h
  by_cases h1 : codeS (c i) = false
  · rw [if_pos h1] at h; exact absurd h (by decide)
  rw [if_neg h1] at h
  by_cases h2 : p i < 0 ∨ 12 < p i
  · rw [if_pos h2] at h; exact absurd h (by decide)
  rw [if_neg h2] at h
  by_cases h3 : (List.range i).any (fun k => decide (c k = c i)) = true
  · rw [if_pos h3] at h; exact absurd h (by decide)
  refine ⟨by simpa using h1, by omega, by omega, fun k hk e => h3 (List.any_eq_true.2 ⟨k, List.mem_range.2 hk, decide_eq_true e⟩)⟩
theorem tabE_zero {n : Nat} {c : Nat → ByteArray} {p : Nat → Int} (h : tabE n c p = 0) : GoodT n c p := by
  unfold tabE at h
  by_cases h1 : 16 < n
  · rw [if_pos h1] at h; exact absurd h (by decide)
  rw [if_neg h1] at h
  have h2 := firstE_zero.1 h
  exact ⟨by omega, fun i hi => (tabAt_zero (h2 i hi)).1, fun i hi => (tabAt_zero (h2 i hi)).2.1, fun i hi => (tabAt_zero (h2 i hi)).2.2.1, fun i k hk hi => (tabAt_zero (h2 i hi)).2.2.2 k hk⟩
theorem GoodT.zero {n : Nat} {c : Nat → ByteArray} {p : Nat → Int} (h : GoodT n c p) : tabE n c p = 0 := by
  unfold tabE
  rw [if_neg (by have := h.few; omega)]
  refine firstE_zero.2 fun i hi => ?_
  have h1 := h.low i hi
  have h2 := h.high i hi
  unfold tabAt
  rw [if_neg (by rw [h.code i hi]; decide), if_neg (by omega), if_neg]
  intro hh
  obtain ⟨k, hk, e⟩ := List.any_eq_true.1 hh
  exact h.diff i k (List.mem_range.1 hk) hi (of_decide_eq_true e)
/-- the first index below n that fulfills P; or none -/
def idx (P : Nat → Bool) : Nat → Option Nat
  | 0 => none
  | n + 1 => match idx P n with
    | some i => some i
    | none => if P n = true then some n else none
theorem idx_none {P : Nat → Bool} : ∀ {n : Nat}, idx P n = none ↔ ∀ i, i < n → P i = false
  | 0 => ⟨fun _ _ h => absurd h (by omega), fun _ => rfl⟩
  | n + 1 => by
    unfold idx
    cases h : idx P n with
    | some k =>
      refine ⟨fun g => by simp at g, fun g => ?_⟩
      have := idx_none.2 fun i hi => g i (Nat.lt_succ_of_lt hi)
      rw [h] at this
      exact absurd this (by simp)
    | none =>
      have hn := idx_none.1 h
      dsimp only
      constructor
      · intro g i hi
        by_cases e : i = n
        · subst e
          cases q : P i with
          | false => rfl
          | true => rw [if_pos q] at g; exact absurd g (by simp)
        · exact hn i (by omega)
      · intro g
        rw [if_neg (by rw [g n (by omega)]; decide)]
theorem idx_some {P : Nat → Bool} {k : Nat} (hk : P k = true) (h : ∀ i, i < k → P i = false) : ∀ {n : Nat}, k < n → idx P n = some k
  | 0, hn => absurd hn (by omega)
  | n + 1, hn => by
    unfold idx
    by_cases e : k = n
    · subst e
      rw [idx_none.2 h, if_pos hk]
    · rw [idx_some hk h (n := n) (by omega)]
theorem idx_is {P : Nat → Bool} : ∀ {n k : Nat}, idx P n = some k → k < n ∧ P k = true ∧ ∀ i, i < k → P i = false
  | 0, _, h => by simp [idx] at h
  | n + 1, k, h => by
    unfold idx at h
    cases q : idx P n with
    | some j =>
      rw [q] at h
      injection h with h
      subst h
      obtain ⟨a, b, c⟩ := idx_is q
      exact ⟨by omega, b, c⟩
    | none =>
      rw [q] at h
      dsimp only at h
      by_cases e : P n = true
      · rw [if_pos e] at h
        injection h with h
        subst h
        exact ⟨by omega, e, idx_none.1 q⟩
      · rw [if_neg e] at h; exact absurd h (by simp)

end Go.Proofs.YtahnkmkmoalbhaaGreatDoor

/- Plain mathematics of layer 5: an amount is put into a bag, one element after the other. -/
namespace Go.Proofs.YtahnkmkmoalbhaaGreatDoor

theorem drop_at {b : Bag} {i : Nat} {p : ByteArray × Int} (h : b[i]? = some p) : b.drop i = p :: b.drop (i + 1) := by
  obtain ⟨hl, e⟩ := List.getElem?_eq_some_iff.1 h
  rw [List.drop_eq_getElem_cons hl, e]
end Go.Proofs.YtahnkmkmoalbhaaGreatDoor

/- Plain mathematics of layer 5: two bags are walked side by side. -/
namespace Go.Proofs.YtahnkmkmoalbhaaGreatDoor

/-- an amount, if it is one -/
def keepL (c : ByteArray) (z : Int) : Bag := if z = 0 then [] else [(c, z)]
theorem amt_app {S : Bag} {c : ByteArray} {z : Int} (h : ∀ p, p ∈ S → bl p.1 c = true) (d : ByteArray) : amt (S ++ keepL c z) d = amt S d + if c = d then z else 0 := by
  induction S with
  | nil =>
    unfold keepL
    by_cases hz : z = 0
    · rw [if_pos hz, hz]; split <;> rfl
    · rw [if_neg hz]
      show (if c = d then z else amt [] d) = 0 + _
      split <;> simp [amt]
  | cons p r ih =>
    show amt (p :: (r ++ keepL c z)) d = amt (p :: r) d + _
    rw [amt.eq_2, amt.eq_2, ih fun q hq => h q (by simp [hq])]
    by_cases hp : p.1 = d
    · rw [if_pos hp, if_pos hp, if_neg fun e => bl_ne (h p (by simp)) (by rw [hp, e])]
      omega
    · rw [if_neg hp, if_neg hp]
theorem keep_mem {c : ByteArray} {z : Int} {p : ByteArray × Int} (h : p ∈ keepL c z) : p.1 = c ∧ p.2 ≠ 0 := by
  unfold keepL at h
  by_cases hz : z = 0
  · rw [if_pos hz] at h; exact absurd h (by simp)
  · rw [if_neg hz] at h
    obtain rfl := List.mem_singleton.1 h
    exact ⟨rfl, hz⟩
theorem keep_asc (c : ByteArray) (z : Int) : Asc (keepL c z) := by
  unfold keepL
  split
  · exact List.Pairwise.nil
  · exact List.pairwise_singleton _ _
/-- S has been made of what came before x in a and before y in b -/
structure MrgS (a b x y S : Bag) : Prop where
  ax : Asc x
  ay : Asc y
  sasc : Asc S
  nz : NZ S
  lx : ∀ p, p ∈ S → ∀ q, q ∈ x → bl p.1 q.1 = true
  ly : ∀ p, p ∈ S → ∀ q, q ∈ y → bl p.1 q.1 = true
  am : ∀ c, amt S c + amt x c + amt y c = amt a c + amt b c
variable {a b x y S x' y' : Bag}
theorem MrgS.start (ha : Asc a) (hb : Asc b) : MrgS a b a b [] :=
  ⟨ha, hb, List.Pairwise.nil, fun _ h => absurd h (by simp), fun _ h => absurd h (by simp), fun _ h => absurd h (by simp), fun c => by simp [amt]⟩
theorem MrgS.next (h : MrgS a b x y S) (c : ByteArray) (z : Int) (ax : Asc x') (ay : Asc y') (hx : ∀ q, q ∈ x' → q ∈ x ∧ bl c q.1 = true) (hy : ∀ q, q ∈ y' → q ∈ y ∧ bl c q.1 = true) (hS : ∀ p, p ∈ S → bl p.1 c = true)
    (hm : ∀ d, amt x d + amt y d = (if c = d then z else 0) + amt x' d + amt y' d) : MrgS a b x' y' (S ++ keepL c z) := by
  refine ⟨ax, ay, List.pairwise_append.2 ⟨h.sasc, keep_asc c z, fun p hp q hq => by rw [(keep_mem hq).1]; exact hS p hp⟩, fun p hp => ?_, fun p hp q hq => ?_, fun p hp q hq => ?_, fun d => ?_⟩
  · rcases List.mem_append.1 hp with g | g
    · exact h.nz p g
    · exact (keep_mem g).2
  · rcases List.mem_append.1 hp with g | g
    · exact h.lx p g q (hx q hq).1
    · rw [(keep_mem g).1]; exact (hx q hq).2
  · rcases List.mem_append.1 hp with g | g
    · exact h.ly p g q (hy q hq).1
    · rw [(keep_mem g).1]; exact (hy q hq).2
  · rw [amt_app hS]
    have h1 := h.am d
    have h2 := hm d
    omega
theorem MrgS.left {p : ByteArray × Int} (h : MrgS a b (p :: x) y S) (hy : ∀ q, q ∈ y → bl p.1 q.1 = true) : MrgS a b x y (S ++ keepL p.1 p.2) := by
  refine h.next p.1 p.2 h.ax.tail h.ay (fun q hq => ⟨by simp [hq], h.ax.head q hq⟩) (fun q hq => ⟨hq, hy q hq⟩) (fun q hq => h.lx q hq p (by simp)) fun d => ?_
  rw [amt.eq_2]
  by_cases e : p.1 = d
  · rw [if_pos e, if_pos e]
    have := amt_same h.ax
    rw [e] at this
    omega
  · rw [if_neg e, if_neg e]; omega
theorem MrgS.right {q : ByteArray × Int} (h : MrgS a b x (q :: y) S) (hx : ∀ p, p ∈ x → bl q.1 p.1 = true) : MrgS a b x y (S ++ keepL q.1 q.2) := by
  refine h.next q.1 q.2 h.ax h.ay.tail (fun p hp => ⟨hp, hx p hp⟩) (fun p hp => ⟨by simp [hp], h.ay.head p hp⟩) (fun p hp => h.ly p hp q (by simp)) fun d => ?_
  rw [amt.eq_2]
  by_cases e : q.1 = d
  · rw [if_pos e, if_pos e]
    have := amt_same h.ay
    rw [e] at this
    omega
  · rw [if_neg e, if_neg e]; omega
theorem MrgS.both {p q : ByteArray × Int} (h : MrgS a b (p :: x) (q :: y) S) (e : p.1 = q.1) : MrgS a b x y (S ++ keepL q.1 (p.2 + q.2)) := by
  refine h.next q.1 (p.2 + q.2) h.ax.tail h.ay.tail (fun r hr => ⟨by simp [hr], by rw [← e]; exact h.ax.head r hr⟩) (fun r hr => ⟨by simp [hr], h.ay.head r hr⟩) (fun r hr => h.ly r hr q (by simp)) fun d => ?_
  rw [amt.eq_2, amt.eq_2]
  by_cases e2 : q.1 = d
  · rw [if_pos (e.trans e2), if_pos e2, if_pos e2]
    have h1 := amt_same h.ax
    have h2 := amt_same h.ay
    rw [e, e2] at h1
    rw [e2] at h2
    omega
  · rw [if_neg (fun g => e2 (e.symm.trans g)), if_neg e2, if_neg e2]; omega
theorem MrgS.done (h : MrgS a b [] [] S) (ha : Asc a) (na : NZ a) (hb : Asc b) : S = addB a b :=
  bag_uniq h.sasc h.nz (addB_asc ha) (addB_nz na) fun c => by
    rw [addB_amt ha hb]
    have := h.am c
    simpa [amt] using this

/-! ### Over rows -/
/-- what is left of a row -/
def leftR (n : Nat) (u : Nat → ByteArray) (x : Nat → Int) (i : Nat) : Bag := (bagL n u x).drop i
theorem leftR_at {n i : Nat} {u : Nat → ByteArray} {x : Nat → Int} (h : i < n) : leftR n u x i = (u i, x i) :: leftR n u x (i + 1) := drop_at (bagL_at h)
theorem leftR_end {n i : Nat} {u : Nat → ByteArray} {x : Nat → Int} (h : n ≤ i) : leftR n u x i = [] := List.drop_eq_nil_of_le (by rw [bagL_len]; exact h)
/-- the three ways -/
inductive MWay (n m : Nat) (u s : Nat → ByteArray) (i j : Nat) : Prop where
  | left (hi : i < n) (h : m ≤ j ∨ (j < m ∧ bl (u i) (s j) = true))
  | right (hj : j < m) (h : n ≤ i ∨ (i < n ∧ bl (u i) (s j) = false ∧ u i ≠ s j))
  | both (hi : i < n) (hj : j < m) (h : u i = s j)
theorem mway (n m : Nat) (u s : Nat → ByteArray) (i j : Nat) (h : i < n ∨ j < m) : MWay n m u s i j := by
  by_cases hi : i < n
  · by_cases hj : j < m
    · cases hb : bl (u i) (s j) with
      | true => exact .left hi (Or.inr ⟨hj, hb⟩)
      | false =>
        by_cases e : u i = s j
        · exact .both hi hj e
        · exact .right hj (Or.inr ⟨hi, hb, e⟩)
    · exact .left hi (Or.inl (by omega))
  · exact .right (by omega) (Or.inl (by omega))
theorem MrgS.leftAt {n m i j : Nat} {u s : Nat → ByteArray} {xv yv : Nat → Int} (h : MrgS a b (leftR n u xv i) (leftR m s yv j) S) (hi : i < n) (hw : m ≤ j ∨ (j < m ∧ bl (u i) (s j) = true)) :
    MrgS a b (leftR n u xv (i + 1)) (leftR m s yv j) (S ++ keepL (u i) (xv i)) := by
  rw [leftR_at hi] at h
  refine h.left fun q hq => ?_
  rcases hw with g | ⟨hj, hb⟩
  · rw [leftR_end g] at hq; exact absurd hq (by simp)
  · have hay := h.ay
    rw [leftR_at hj] at hq hay
    rcases List.mem_cons.1 hq with rfl | hq
    · exact hb
    · exact bl_trans hb (hay.head q hq)
theorem MrgS.rightAt {n m i j : Nat} {u s : Nat → ByteArray} {xv yv : Nat → Int} (h : MrgS a b (leftR n u xv i) (leftR m s yv j) S) (hj : j < m) (hw : n ≤ i ∨ (i < n ∧ bl (u i) (s j) = false ∧ u i ≠ s j)) :
    MrgS a b (leftR n u xv i) (leftR m s yv (j + 1)) (S ++ keepL (s j) (yv j)) := by
  rw [leftR_at hj] at h
  refine h.right fun q hq => ?_
  rcases hw with g | ⟨hi, hb, hne⟩
  · rw [leftR_end g] at hq; exact absurd hq (by simp)
  · have hb2 : bl (s j) (u i) = true := by
      cases g : bl (s j) (u i) with
      | true => rfl
      | false => exact absurd (bl_tri hb g) hne
    have hax := h.ax
    rw [leftR_at hi] at hq hax
    rcases List.mem_cons.1 hq with rfl | hq
    · exact hb2
    · exact bl_trans hb2 (hax.head q hq)
theorem MrgS.bothAt {n m i j : Nat} {u s : Nat → ByteArray} {xv yv : Nat → Int} (h : MrgS a b (leftR n u xv i) (leftR m s yv j) S) (hi : i < n) (hj : j < m) (he : u i = s j) :
    MrgS a b (leftR n u xv (i + 1)) (leftR m s yv (j + 1)) (S ++ keepL (s j) (xv i + yv j)) := by
  rw [leftR_at hi, leftR_at hj] at h
  exact h.both he

end Go.Proofs.YtahnkmkmoalbhaaGreatDoor

/- Plain mathematics of layer 5: the last space of a text. -/
namespace Go.Proofs.YtahnkmkmoalbhaaGreatDoor

/-- s ends with a space and a code: m bytes stand before them -/
structure ParP (s : ByteArray) (m : Nat) : Prop where
  size : s.size = m + 4
  space : s[m]'(by omega) = 32
  code : codeS (s.extract (m + 1) s.size) = true
theorem data_get! {s : ByteArray} {i : Nat} (h : i < s.size) : s.data[i]! = s[i]'h := getElem!_pos s.data i h
theorem code_let {x : ByteArray} (h : codeS x = true) {i : Nat} (hi : i < x.size) : isLet (x[i]'hi) = true := by
  unfold codeS at h
  rw [Bool.and_eq_true] at h
  exact List.all_eq_true.1 h.1 _ (Array.mem_toList_iff.2 (Array.getElem_mem hi))
theorem last_bad {s : ByteArray} (h : ∀ m, ¬ ParP s m) : Lib.lastIndexByte s 32 = -1 ∨ ∃ k : Nat, k < s.size ∧ Lib.lastIndexByte s 32 = k ∧ codeS (s.extract (k + 1) s.size) = false := by
  rcases Lib.lastIndexByte_spec s 32 with ⟨e, _⟩ | ⟨k, hk, e, hc, _⟩
  · exact Or.inl e
  · refine Or.inr ⟨k, hk, e, ?_⟩
    cases g : codeS (s.extract (k + 1) s.size) with
    | false => rfl
    | true =>
      have hs := code_size g
      rw [ByteArray.size_extract] at hs
      refine absurd ⟨by omega, ?_, g⟩ (h k)
      rw [data_get! hk] at hc
      exact UInt8.toNat_inj.1 (by simpa using Int.ofNat_inj.1 hc)
theorem last_good {s : ByteArray} {m : Nat} (h : ParP s m) : Lib.lastIndexByte s 32 = m := by
  have hs := h.size
  rcases Lib.lastIndexByte_spec s 32 with ⟨_, hn⟩ | ⟨k, hk, e, hc, hn⟩
  · have := hn m (by omega)
    rw [data_get! (show m < s.size by omega), h.space] at this
    exact absurd rfl this
  · rw [e]
    by_cases h1 : k = m
    · rw [h1]
    by_cases h2 : k < m
    · have := hn m h2 (by omega)
      rw [data_get! (show m < s.size by omega), h.space] at this
      exact absurd rfl this
    · have hx : k - (m + 1) < (s.extract (m + 1) s.size).size := by rw [ByteArray.size_extract]; omega
      have hl := code_let h.code hx
      rw [ByteArray.getElem_extract] at hl
      rw [data_get! hk] at hc
      have e2 : m + 1 + (k - (m + 1)) = k := by omega
      simp only [e2] at hl
      unfold isLet at hl
      have := of_decide_eq_true hl
      omega
theorem parP_cases (s : ByteArray) : (∃ m, ParP s m) ∨ ∀ m, ¬ ParP s m := by
  by_cases h : ∃ m, ParP s m
  · exact Or.inl h
  · exact Or.inr fun m hm => h ⟨m, hm⟩

end Go.Proofs.YtahnkmkmoalbhaaGreatDoor

/- Two strings in a block: what layer 2 has of them; one answer drawn. -/
namespace Go.Proofs.YtahnkmkmoalbhaaGreatDoor
open Go.RowKit

theorem below_drew {B : Nat} {a w : World} (h : Below B a w) : Below B a w.drew := below_drewN h 1

end Go.Proofs.YtahnkmkmoalbhaaGreatDoor

/- Layer 5: bags and tables in memory: read, appended to. -/
namespace Go.Proofs.YtahnkmkmoalbhaaGreatDoor
open Go.RowKit

theorem info_Money : (Tryz.prog.info? 35).map (fun i => (i.zero, i.size, i.bytes)) = some (some (.agg #[.string ⟨#[]⟩, .string ⟨#[]⟩]), 2, 32) := by kernel_rfl
/-- the slice value x owns n amounts of money -/
abbrev OwnM (w : World) (base : Nat) (x : Value) (n : Nat) (u v : Nat → ByteArray) : Prop := OwnC w base 35 2 x n fun i => .string (if i % 2 = 0 then u (i / 2) else v (i / 2))
theorem OwnM.add {w : World} {base : Nat} {x : Value} {n : Nat} {u v : Nat → ByteArray} (h : OwnM w base x n u v) (g : Nat) (hg : w.cell? ⟨g, 0, none⟩ = some (.string (u n))) (hg1 : w.cell? ⟨g, 1, none⟩ = some (.string (v n))) (ty : TypeId) (hs : n + 1 ≤ 10000000) (hb : base ≤ w.heap.size) :
    ∃ v' w', (Builtin.append_ #[32, 32] ty #[x, .slice (some ⟨g, 0, none⟩) 1 1]).run Tryz.prog w = .ok v' w' ∧ OwnM w' base v' (n + 1) u v ∧ Below base w w' ∧ w.grownBy w' x.ownBlock := by
  obtain ⟨i0, hi, hz0, hz1, hz2⟩ := info_parts info_Money
  obtain ⟨v', w', h1, h2, h3, _⟩ := run_append_own (P := Tryz.prog) w base 32 ty 35 i0 (.agg #[.string ⟨#[]⟩, .string ⟨#[]⟩]) 2 32 Tryz.underlying32 hi hz0 hz1 hz2 rfl (by decide) x n _ h ⟨g, 0, none⟩ 1 1 [.string (u n), .string (v n)] rfl
    (fun j y hj => by
      match j, hj with
      | 0, hj => simp at hj; subst hj; simpa [Addr.add] using hg
      | 1, hj => simp at hj; subst hj; simpa [Addr.add] using hg1
      | j + 2, hj => simp at hj)
    (fun y hy => by simp at hy; rcases hy with rfl | rfl <;> rfl) (by unfold maxLen; omega) (by omega) hb
  refine ⟨v', w', h1, ?_, (Below.refl base w).grown h3 hb (fun k hk => (World.ownsRow.lt h k hk).1), h3⟩
  unfold OwnM OwnC
  rw [show (n + 1) * 2 = n * 2 + 1 + 1 by omega, List.range_succ, List.range_succ, List.map_append, List.map_append, List.append_assoc]
  have e1 : (n * 2) % 2 = 0 := by omega
  have e2 : (n * 2) / 2 = n := by omega
  have e3 : (n * 2 + 1) % 2 ≠ 0 := by omega
  have e4 : (n * 2 + 1) / 2 = n := by omega
  simp only [List.map_cons, List.map_nil, if_pos e1, e2, if_neg e3, e4]
  exact h2

/-- a bag in memory -/
abbrev RB (w : World) (xa : Option Addr) (b : Bag) : Prop := Rf w xa b.length (atU b) fun i => cS (atX b i)
abbrev OB (w : World) (base : Nat) (x : Value) (b : Bag) : Prop := OwnM w base x b.length (atU b) fun i => cS (atX b i)
theorem atU_app {b : Bag} {p : ByteArray × Int} {i : Nat} (h : i < b.length) : atU (b ++ [p]) i = atU b i := by unfold atU; rw [List.getD_eq_getElem?_getD, List.getD_eq_getElem?_getD, List.getElem?_append_left h]
theorem atX_app {b : Bag} {p : ByteArray × Int} {i : Nat} (h : i < b.length) : atX (b ++ [p]) i = atX b i := by unfold atX; rw [List.getD_eq_getElem?_getD, List.getD_eq_getElem?_getD, List.getElem?_append_left h]
theorem atU_last {b : Bag} {p : ByteArray × Int} : atU (b ++ [p]) b.length = p.1 := by unfold atU; simp
theorem atX_last {b : Bag} {p : ByteArray × Int} : atX (b ++ [p]) b.length = p.2 := by unfold atX; simp
theorem at_some {b : Bag} {i : Nat} (h : i < b.length) : b[i]? = some (atU b i, atX b i) := by
  unfold atU atX
  rw [List.getD_eq_getElem?_getD, List.getElem?_eq_getElem h]
  rfl
theorem OB.nil (w : World) (base : Nat) : OB w base (.slice none 0 0) [] := OwnC.nil _ _ _ _ _
theorem OwnM.congr {w : World} {base : Nat} {x : Value} {n : Nat} {u v s t : Nat → ByteArray} (h : OwnM w base x n u v) (e : ∀ i, i < n → s i = u i ∧ t i = v i) : OwnM w base x n s t :=
  OwnC.congr h fun i hi => by
    have := e (i / 2) (by omega)
    show Value.string _ = Value.string _
    rw [this.1, this.2]
theorem OB.add {w : World} {base : Nat} {x : Value} {b : Bag} (h : OB w base x b) (p : ByteArray × Int) (g : Nat) (hg : w.cell? ⟨g, 0, none⟩ = some (.string p.1)) (hg1 : w.cell? ⟨g, 1, none⟩ = some (.string (cS p.2))) (ty : TypeId) (hs : b.length + 1 ≤ 10000000) (hb : base ≤ w.heap.size) :
    ∃ v' w', (Builtin.append_ #[32, 32] ty #[x, .slice (some ⟨g, 0, none⟩) 1 1]).run Tryz.prog w = .ok v' w' ∧ OB w' base v' (b ++ [p]) ∧ Below base w w' ∧ w.grownBy w' x.ownBlock := by
  have h1 : OwnM w base x b.length (atU (b ++ [p])) (fun i => cS (atX (b ++ [p]) i)) := OwnM.congr h fun i hi => ⟨atU_app hi, by rw [atX_app hi]⟩
  obtain ⟨v', w', e, hO, hB, hG⟩ := OwnM.add h1 g (by rw [atU_last]; exact hg) (by rw [atX_last]; exact hg1) ty hs hb
  refine ⟨v', w', e, ?_, hB, hG⟩
  show OwnM w' base v' (b ++ [p]).length _ _
  rw [List.length_append]
  exact hO
theorem OB.rb {w : World} {base : Nat} {x : Value} {b : Bag} (h : OB w base x b) : ∃ xa cap, x = .slice xa b.length cap ∧ RB w xa b ∧ b.length ≤ cap ∧ cap ≤ maxLen := by
  obtain ⟨xa, cap, e, h1, h2, h3, _, _⟩ := OwnC.rc h
  exact ⟨xa, cap, e, h1, h2, h3⟩
/-- the bag of a row that is one -/
def rowB (n : Nat) (u v : Nat → ByteArray) : Bag := bagL n u fun i => vS (v i)
theorem atU_row {n i : Nat} {u : Nat → ByteArray} {x : Nat → Int} (h : i < n) : atU (bagL n u x) i = u i := by
  unfold atU; rw [List.getD_eq_getElem?_getD, bagL_at h]; rfl
theorem atX_row {n i : Nat} {u : Nat → ByteArray} {x : Nat → Int} (h : i < n) : atX (bagL n u x) i = x i := by
  unfold atX; rw [List.getD_eq_getElem?_getD, bagL_at h]; rfl
theorem RB.of {w : World} {xa : Option Addr} {n : Nat} {u v : Nat → ByteArray} (h : Rf w xa n u v) (hc : ∀ i, i < n → v i = cS (vS (v i))) : RB w xa (rowB n u v) := by
  unfold RB rowB
  rw [bagL_len]
  refine Rc.congr h fun i hi => ?_
  show Value.string _ = Value.string _
  dsimp only
  rw [atU_row (by omega), atX_row (by omega), ← hc (i / 2) (by omega)]

/-! ### Tables -/
/-- a table in memory -/
abbrev Rt (w : World) (xa : Option Addr) (n : Nat) (c : Nat → ByteArray) (p : Nat → Int) : Prop := Rc w xa (n * 2) fun i => if i % 2 = 0 then .string (c (i / 2)) else .int .i64 (p (i / 2))
theorem Rt.at {w : World} {xa : Option Addr} {n : Nat} {c : Nat → ByteArray} {p : Nat → Int} (h : Rt w xa n c p) {i : Nat} (hi : i < n) :
    ∃ b o, xa = some ⟨b, o, none⟩ ∧ b < w.heap.size ∧ w.cell? ⟨b, o + i * 2, none⟩ = some (.string (c i)) ∧ w.cell? ⟨b, o + i * 2 + 1, none⟩ = some (.int .i64 (p i)) := by
  obtain ⟨b, o, e, hl, hc⟩ := h.sl (by omega)
  have h1 := hc (i * 2) (by omega)
  have h2 := hc (i * 2 + 1) (by omega)
  rw [if_pos (by omega), show i * 2 / 2 = i by omega] at h1
  rw [if_neg (by omega), show (i * 2 + 1) / 2 = i by omega, ← Nat.add_assoc] at h2
  exact ⟨b, o, e, hl, h1, h2⟩

end Go.Proofs.YtahnkmkmoalbhaaGreatDoor

/- The reference of layer 5: Code, Check, Amount: the walks. -/
namespace Go.Proofs.YtahnkmkmoalbhaaGreatDoor
open Go.RowKit

set_option maxRecDepth 100000 in
set_option maxHeartbeats 8000000 in
theorem rCode (s : ByteArray) (w : World) (hs : s.size ≤ 1000000) :
    Calls Tryz.prog 49 #[.string s] w fun e w' => e = .returned (.bool (codeS s)) ∧ w = w' := by
  go_enter Tryz.func49, Tryz.ntmps49
  go_wp2_with fail
  go_loop [3] (fun i => ∃ k : Nat, k ≤ s.size ∧ i = .int .i64 k ∧ (s.data.toList.take k).all isLet = true) (fun i => s.size - (intOf i).toNat)
  case atStart => exact ⟨0, Nat.zero_le _, rfl, rfl⟩
  case round =>
    obtain ⟨k, hk, rfl, ha⟩ := hrel
    have HA := Lib.hid ha
    clear ha
    by_cases hlt : k < s.size
    · have hlt' : k < s.data.toList.length := by rw [size_toList]; exact hlt
      have HB := Lib.hid (byte_at s k hlt hlt')
      by_cases b1 : ((s[k]'hlt).toNat : Int) < 65
      · have HE := Lib.hid (show codeS s = false by
          unfold codeS
          rw [not_all_here hlt' (by rw [HB.out]; unfold isLet; exact decide_eq_false (by omega))]; rfl)
        clear HB hlt' HA
        go_wp2
        go_ret
        exact ⟨by rw [HE.out]; rfl, rfl⟩
      · by_cases b2 : 90 < ((s[k]'hlt).toNat : Int)
        · have HE := Lib.hid (show codeS s = false by
            unfold codeS
            rw [not_all_here hlt' (by rw [HB.out]; unfold isLet; exact decide_eq_false (by omega))]; rfl)
          clear HB hlt' HA
          go_wp2
          go_ret
          exact ⟨by rw [HE.out]; rfl, rfl⟩
        · have H := Lib.hid (all_take_next HA.out hlt' (by rw [HB.out]; unfold isLet; exact decide_eq_true (by omega)))
          clear HB hlt' HA
          go_wp2
          go_round
          case rel => exact ⟨k + 1, by omega, by go_num, H.out⟩
          case measure => simp [intOf]; omega
    · have HE := Lib.hid (show codeS s = decide (s.size = 3) by
        unfold codeS
        have := HA.out
        rw [List.take_of_length_le (by rw [size_toList]; omega)] at this
        rw [this]; rfl)
      clear HA
      go_wp2
      go_ret
      exact ⟨congrArg (fun b => Ending.returned (Value.bool b)) (show ((s.size : Int) == 3) = codeS s by rw [HE.out, Bool.eq_iff_iff]; simp; omega), rfl⟩

/-- amounts to be read: n of them, not long -/
structure FitB (n : Nat) (u v : Nat → ByteArray) : Prop where
  max : n ≤ 100000
  code : ∀ i, i < n → (u i).size ≤ 1000
  num : ∀ i, i < n → (v i).size ≤ 1000
end Go.Proofs.YtahnkmkmoalbhaaGreatDoor

/- The reference of layer 5: With: the walk. -/
namespace Go.Proofs.YtahnkmkmoalbhaaGreatDoor
open Go.RowKit

theorem OB.made {w : World} {base : Nat} (hb : base ≤ w.heap.size) : OB (w.alloc (.cells #[] 35)) base (.slice (some ⟨w.heap.size, 0, none⟩) 0 0) [] :=
  ⟨rfl, Or.inr ⟨w.heap.size, 0, #[], rfl, hb, heap_alloc_new w _, Nat.le_refl _, by unfold maxLen; omega, rfl, rfl⟩⟩
theorem cS_nn {z : Int} (h : z ≠ 0) : cS z ≠ ⟨#[]⟩ := fun e => h (by rw [← vS_cS z, e]; exact vS_nil)
theorem OB.setOther {w : World} {base : Nat} {v : Value} {b : Bag} (h : OB w base v b) {S i : Nat} (hne : ∀ g, v.ownBlock = some g → g ≠ S) (y : Value) : OB (w.setCell ⟨S, i, none⟩ y) base v b := by
  refine World.ownsRow.kept h (row := some S) ⟨rfl, rfl, rfl, by simp [World.setCell], fun k hk he => ?_⟩ ?_
  · rw [Below.heap_setCell _ _ _ k (fun e => he (by rw [e]))]
  · cases hv : v.ownBlock with
    | none => exact .inl rfl
    | some g => exact .inr (by have := hne g hv; simpa using this)
theorem PairAt.grown {w w' : World} {S : Nat} {t : TypeId} {u v : ByteArray} {row : Option Nat} (h : PairAt w S t u v) (hg : w.grownBy w' row) (hne : some S ≠ row) : PairAt w' S t u v := by
  have hl := h.lt
  unfold PairAt at *
  rw [hg.block S hl hne]
  exact h

end Go.Proofs.YtahnkmkmoalbhaaGreatDoor

/- The reference of layer 5: Amount, Sum, Put: the walks. -/
namespace Go.Proofs.YtahnkmkmoalbhaaGreatDoor
open Go.RowKit

/-- the amount of the first element with this code -/
def amtS (n : Nat) (u v : Nat → ByteArray) (c : ByteArray) : ByteArray := match idx (fun i => decide (u i = c)) n with
  | some i => v i
  | none => ⟨#[]⟩
end Go.Proofs.YtahnkmkmoalbhaaGreatDoor

/- The reference of layer 5: Put, Neg: the walks. -/
namespace Go.Proofs.YtahnkmkmoalbhaaGreatDoor
open Go.RowKit

theorem can_cs {z : ByteArray} (h : isCan z = true) : z = cS (vS z) := by
  unfold isCan at h
  have := of_decide_eq_true h
  first | exact this.symm | exact this
theorem good_nz {n : Nat} {u v : Nat → ByteArray} (g : GoodB isCan n u v) : NZ (rowB n u v) := bagL_nz.2 fun i hi e => g.nz i hi (by rw [can_cs (g.can i hi), e, cS_zero])
end Go.Proofs.YtahnkmkmoalbhaaGreatDoor

/- The reference of layer 5: Find, CheckTable: the walks. -/
namespace Go.Proofs.YtahnkmkmoalbhaaGreatDoor
open Go.RowKit

/-- two values lie in block b -/
def TwoAt (w : World) (b : Nat) (t : TypeId) (x y : Value) : Prop := w.heap[b]? = some (.cells #[x, y] t (0, 0))
theorem TwoAt.cells {w : World} {b : Nat} {t : TypeId} {x y : Value} (h : TwoAt w b t x y) : w.cell? ⟨b, 0, none⟩ = some x ∧ w.cell? ⟨b, 1, none⟩ = some y ∧ w.frozen? ⟨b, 0, none⟩ = false ∧ w.frozen? ⟨b, 1, none⟩ = false := by
  unfold TwoAt at h
  exact ⟨by rw [cell_of_row w b 0 _ _ _ h]; rfl, by rw [cell_of_row w b 1 _ _ _ h]; rfl, frozen_of_row w b 0 _ _ h, frozen_of_row w b 1 _ _ h⟩
theorem TwoAt.made (w : World) (t : TypeId) (x y : Value) : TwoAt (w.alloc (.cells #[x, y] t)) w.heap.size t x y := heap_alloc_new w _
theorem TwoAt.put {W : World} {b : Nat} {t : TypeId} {x y : Value} (h : TwoAt W b t x y) (u v : Value) : TwoAt ((W.setCell ⟨b, 0, none⟩ u).setCell ⟨b, 1, none⟩ v) b t u v := by
  have h1 := heap_setCell_same W b 0 _ _ u h
  have h2 := heap_setCell_same (W.setCell ⟨b, 0, none⟩ u) b 1 _ _ v h1
  unfold TwoAt; rw [h2]; rfl

/-- the first currency with this code -/
def curI (n : Nat) (c : Nat → ByteArray) (x : ByteArray) : Option Nat := idx (fun i => decide (c i = x)) n
def curV (c : Nat → ByteArray) (p : Nat → Int) : Option Nat → Value
  | some i => .tuple #[.agg #[.string (c i), .int .i64 (p i)], .bool true]
  | none => .tuple #[.agg #[.string ⟨#[]⟩, .int .i64 0], .bool false]
theorem curI_at {n k : Nat} {c : Nat → ByteArray} {x : ByteArray} (hk : k < n) (he : c k = x) (h : ∀ i, i < k → c i ≠ x) : curI n c x = some k :=
  idx_some (P := fun i => decide (c i = x)) (decide_eq_true he) (fun i hi => decide_eq_false (h i hi)) hk
theorem curI_none {n : Nat} {c : Nat → ByteArray} {x : ByteArray} (h : ∀ i, i < n → c i ≠ x) : curI n c x = none := idx_none.2 fun i hi => decide_eq_false (h i hi)
set_option maxRecDepth 100000 in
set_option maxHeartbeats 8000000 in
theorem rFind (w : World) (xa : Option Addr) (n cap : Nat) (c : Nat → ByteArray) (p : Nat → Int) (x : ByteArray) (hr : Rt w xa n c p) (hmax : n ≤ 9223372036854775807) :
    Calls Tryz.prog 15 #[.slice xa n cap, .string x] w fun e w' => e = .returned (curV c p (curI n c x)) ∧ Below w.heap.size w w' := by
  have HR := Lib.hid hr
  obtain ⟨S0, hS0⟩ : ∃ s, w.heap.size = s := ⟨_, rfl⟩
  obtain ⟨W0, hW0⟩ : ∃ W, W = w.alloc (.cells #[.string ⟨#[]⟩, .int .i64 0] 26) := ⟨_, rfl⟩
  have HX := Lib.hid (show TwoAt W0 S0 26 (.string ⟨#[]⟩) (.int .i64 0) by rw [hW0, ← hS0]; exact TwoAt.made _ _ _ _)
  have HB := Lib.hid (show Below w.heap.size w W0 by rw [hW0]; exact (Below.refl _ _).alloc (Nat.le_refl _) _)
  clear hr
  go_enter Tryz.func15, Tryz.ntmps15
  go_upto_region 1 with fail
  try rw [hS0]
  rw [← hW0]
  clear hW0
  go_wp2_with fail
  go_loopw [6] (fun iv wr => ∃ k : Nat, k ≤ n ∧ iv = .int .i64 (k : Int) ∧ Hid (∀ i, i < k → c i ≠ x) ∧ wr = W0) (fun iv _ => n - (intOf iv).toNat)
  case atStart => exact ⟨0, Nat.zero_le _, rfl, Lib.hid (fun i hi => absurd hi (by omega)), by first | rfl | trivial⟩
  case round =>
    obtain ⟨k, hk, rfl, HA, rfl⟩ := hrel
    obtain ⟨f0, f1, f2, f3⟩ := HX.out.cells
    by_cases hlt : k < n
    · have hw1 : IntKind.i64.wrap ((k : Int) + 1) = (k : Int) + 1 := IntWalk.i64_in _ (by omega)
      obtain ⟨b, o, rfl, hb, y1, y2⟩ := Rt.at HR.out hlt
      have z1 := (HB.out.cell (p := ⟨b, o + k * 2, none⟩) hb).trans y1
      have z2 := (HB.out.cell (p := ⟨b, o + k * 2 + 1, none⟩) hb).trans y2
      by_cases he : c k = x
      · have HE := Lib.hid (curI_at hlt he HA.out)
        obtain ⟨pk, hpk⟩ : ∃ q, p k = q := ⟨_, rfl⟩
        have HEV := Lib.hid (show curV c p (curI n c x) = .tuple #[.agg #[.string x, .int .i64 pk], .bool true] by rw [HE.out]; show Value.tuple #[.agg #[.string (c k), .int .i64 (p k)], .bool true] = _; rw [he, hpk])
        rw [he] at z1
        rw [hpk] at z2
        have hbs : w.heap.size ≤ S0 := by omega
        have hP := HX.out.put (.string x) (.int .i64 pk)
        have HBN := Lib.hid ((HB.out.setCell (p := ⟨S0, 0, none⟩) hbs (.string x)).setCell (p := ⟨S0, 1, none⟩) hbs (.int .i64 pk))
        obtain ⟨k0, k1, _, _⟩ := hP.cells
        clear he hpk HA HE y1 y2 hP
        go_wp2_with fail
        (try simp only [Exit.inBlock, Exit.then])
        exact bodyPost_ret (v := .tuple #[.agg #[.string x, .int .i64 pk], .bool true]) (by simp [results, Tryz.results15, go_sem, k0, k1]) rfl ⟨by rw [HEV.out], HBN.out⟩
      · have hne : ((c k).toList == x.toList) = false := by rw [beq_toList]; exact decide_eq_false he
        have HA2 := Lib.hid (show ∀ i, i < k + 1 → c i ≠ x from fun i hi => by
          by_cases e : i = k
          · rw [e]; exact he
          · exact HA.out i (by omega))
        obtain ⟨uk, huk⟩ : ∃ x, c k = x := ⟨_, rfl⟩
        rw [huk] at z1 hne
        clear he huk HA y1 y2
        go_wp2_with fail
        go_roundw
        case rel => exact ⟨k + 1, by omega, by simp, HA2, by first | rfl | trivial⟩
        case measure => simp [intOf]; omega
    · obtain rfl : k = n := by omega
      have HEV := Lib.hid (show curV c p (curI k c x) = .tuple #[.agg #[.string ⟨#[]⟩, .int .i64 0], .bool false] by rw [curI_none HA.out]; rfl)
      have hbs : w.heap.size ≤ S0 := by omega
      have hP := HX.out.put (.string ⟨#[]⟩) (.int .i64 0)
      have HBN := Lib.hid ((HB.out.setCell (p := ⟨S0, 0, none⟩) hbs (.string ⟨#[]⟩)).setCell (p := ⟨S0, 1, none⟩) hbs (.int .i64 0))
      obtain ⟨k0, k1, _, _⟩ := hP.cells
      clear HA hP
      go_wp2_with fail
      (try simp only [Exit.inBlock, Exit.then])
      exact bodyPost_ret (v := .tuple #[.agg #[.string ⟨#[]⟩, .int .i64 0], .bool false]) (by simp [results, Tryz.results15, go_sem, k0, k1]) rfl ⟨by rw [HEV.out], HBN.out⟩

/-- currencies to be read: n of them, with codes that are not long -/
structure FitT (n : Nat) (c : Nat → ByteArray) : Prop where
  max : n ≤ 100000
  code : ∀ i, i < n → (c i).size ≤ 1000
set_option maxRecDepth 100000 in
set_option maxHeartbeats 8000000 in
theorem rTab_many (w : World) (xa : Option Addr) (n cap : Nat) (h : 16 < n) :
    Calls Tryz.prog 17 #[.slice xa n cap] w fun e w' => e = .returned (.int .i64 4) ∧ ∃ q, w' = w.drewN q := by
  have hi : (16 : Int) < n := by omega
  clear h
  go_enter Tryz.func17, Tryz.ntmps17
  go_wp2_with fail
  go_ret
  exact ⟨rfl, 0, rfl⟩
set_option maxRecDepth 100000 in
set_option maxHeartbeats 16000000 in
theorem rTab_few (w : World) (xa : Option Addr) (n cap : Nat) (c : Nat → ByteArray) (p : Nat → Int) (hr : Rt w xa n c p) (hf : FitT n c) (hn : n ≤ 16) :
    Calls Tryz.prog 17 #[.slice xa n cap] w fun e w' => e = .returned (.int .i64 (firstE (tabAt c p) n)) ∧ ∃ q, w' = w.drewN q := by
  have hi : ¬ (16 : Int) < n := by omega
  have HR := Lib.hid hr
  have HF := Lib.hid hf
  clear hr hf
  go_enter Tryz.func17, Tryz.ntmps17
  go_wp2_with fail
  go_loopw [3] (fun iv wr => ∃ k : Nat, k ≤ n ∧ iv = .int .i64 (k : Int) ∧ Hid (∀ i, i < k → tabAt c p i = 0) ∧ ∃ q, wr = w.drewN q) (fun iv _ => n - (intOf iv).toNat)
  case atStart => exact ⟨0, Nat.zero_le _, rfl, Lib.hid (fun i hi => absurd hi (by omega)), 0, rfl⟩
  case round =>
    obtain ⟨k, hk, rfl, HA, q, rfl⟩ := hrel
    have hw1 : IntKind.i64.wrap ((k : Int) + 1) = (k : Int) + 1 := IntWalk.i64_in _ (by omega)
    by_cases hlt : k < n
    · obtain ⟨b, o, rfl, hb, z1, z2⟩ := Rt.at HR.out hlt
      have hsu := HF.out.code k hlt
      have HCO := Lib.hid (fun W => rCode (c k) W (by omega))
      cases h1 : codeS (c k) with
      | false =>
        have HE := Lib.hid (show firstE (tabAt c p) n = 23 by
          have hz : tabAt c p k = 23 := by unfold tabAt; rw [if_pos h1]
          rw [firstE_at (by rw [hz]; decide) HA.out hlt, hz])
        rw [h1] at HCO
        obtain ⟨uk, huk⟩ : ∃ x, c k = x := ⟨_, rfl⟩
        rw [huk] at z1 HCO
        clear h1 huk hsu HA
        go_wp2_with fail
        refine (HCO.out _).mono ?_
        rintro _ _ ⟨rfl, rfl⟩
        go_wp2_with fail
        go_ret
        exact ⟨by rw [HE.out]; rfl, q, rfl⟩
      | true =>
        rw [h1] at HCO
        by_cases h2 : p k < 0 ∨ 12 < p k
        · have HE := Lib.hid (show firstE (tabAt c p) n = 2 by
            have hz : tabAt c p k = 2 := by unfold tabAt; rw [if_neg (by rw [h1]; decide), if_pos h2]
            rw [firstE_at (by rw [hz]; decide) HA.out hlt, hz])
          obtain ⟨uk, huk⟩ : ∃ x, c k = x := ⟨_, rfl⟩
          obtain ⟨pk, hpk⟩ : ∃ x, p k = x := ⟨_, rfl⟩
          rw [huk] at z1 HCO
          rw [hpk] at z2 h2
          clear h1 huk hpk hsu HA
          by_cases h3 : pk < 0
          · have h4 : decide (pk < 0) = true := decide_eq_true h3
            clear h2
            go_wp2_with fail
            refine (HCO.out _).mono ?_
            rintro _ _ ⟨rfl, rfl⟩
            go_wp2_with fail
            go_ret
            exact ⟨by rw [HE.out]; rfl, q, rfl⟩
          · have h4 : 12 < pk := by omega
            clear h2
            go_wp2_with fail
            refine (HCO.out _).mono ?_
            rintro _ _ ⟨rfl, rfl⟩
            go_wp2_with fail
            go_ret
            exact ⟨by rw [HE.out]; rfl, q, rfl⟩
        · have h3 : ¬ p k < 0 := fun e => h2 (Or.inl e)
          have h4 : ¬ 12 < p k := fun e => h2 (Or.inr e)
          have HE5 := Lib.hid (show (List.range k).any (fun l => decide (c l = c k)) = true → firstE (tabAt c p) n = 5 from fun hh => by
            have hz : tabAt c p k = 5 := by unfold tabAt; rw [if_neg (by rw [h1]; decide), if_neg h2, if_pos hh]
            rw [firstE_at (by rw [hz]; decide) HA.out hlt, hz])
          have HE0 := Lib.hid (show (∀ l, l < k → c l ≠ c k) → ∀ i, i < k + 1 → tabAt c p i = 0 from fun hh i hi => by
            by_cases e : i = k
            · subst e
              unfold tabAt
              rw [if_neg (by rw [h1]; decide), if_neg h2, if_neg]
              intro g
              obtain ⟨l, hl, e⟩ := List.any_eq_true.1 g
              exact hh l (List.mem_range.1 hl) (of_decide_eq_true e)
            · exact HA.out i (by omega))
          have HZ1 := Lib.hid z1
          obtain ⟨uk, huk⟩ : ∃ x, c k = x := ⟨_, rfl⟩
          obtain ⟨pk, hpk⟩ : ∃ x, p k = x := ⟨_, rfl⟩
          rw [huk] at z1 HCO
          rw [hpk] at z2 h3 h4
          have HUK := Lib.hid huk
          clear h1 h2 huk hpk hsu HA
          go_wp2_with fail
          refine (HCO.out _).mono ?_
          rintro _ _ ⟨rfl, rfl⟩
          go_wp2_with fail
          go_loopw [4] (fun jv wx => ∃ j : Nat, j ≤ k ∧ jv = .int .i64 (j : Int) ∧ Hid (∀ l, l < j → c l ≠ c k) ∧ ∃ r, wx = w.drewN r) (fun jv _ => k - (intOf jv).toNat)
          case atStart => exact ⟨0, Nat.zero_le _, rfl, Lib.hid (fun i hi => absurd hi (by omega)), q, rfl⟩
          case round =>
            obtain ⟨j, hj, rfl, HJ, r, rfl⟩ := hrel
            have hw2 : IntKind.i64.wrap ((j : Int) + 1) = (j : Int) + 1 := IntWalk.i64_in _ (by omega)
            by_cases hjk : j < k
            · obtain ⟨b', o', e', _, y1, _⟩ := Rt.at HR.out (show j < n by omega)
              obtain ⟨rfl, rfl⟩ : b = b' ∧ o = o' := by injection e' with e'; injection e' with e1 e2; exact ⟨e1, e2⟩
              have hjn : (j : Int) < (n : Int) := by omega
              have hkn : (k : Int) < (n : Int) := by omega
              by_cases he : c j = c k
              · have HE := Lib.hid (HE5.out (List.any_eq_true.2 ⟨j, List.mem_range.2 hjk, decide_eq_true he⟩))
                rw [he, HUK.out] at y1
                clear he HJ
                go_wp2_with fail
                go_quiet (fail)
                rename_i nq
                go_wp2_with fail
                go_ret
                exact ⟨by rw [HE.out]; rfl, r + nq, World.drewN_drewN _ _ _⟩
              · have hne : ((c j).toList == uk.toList) = false := by rw [← HUK.out, beq_toList]; exact decide_eq_false he
                have HJ2 := Lib.hid (show ∀ l, l < j + 1 → c l ≠ c k from fun l hl => by
                  by_cases e : l = j
                  · rw [e]; exact he
                  · exact HJ.out l (by omega))
                obtain ⟨uj, huj⟩ : ∃ x, c j = x := ⟨_, rfl⟩
                rw [huj] at y1 hne
                clear he huj HJ
                go_wp2_with fail
                go_quiet (fail)
                go_wp2_with fail
                go_roundw
                case rel => exact ⟨j + 1, by omega, by simp, HJ2, _, rfl⟩
                case measure => simp [intOf]; omega
            · obtain rfl : j = k := by omega
              have HN := Lib.hid (HE0.out HJ.out)
              clear HJ
              go_wp2_with fail
              go_roundw
              case rel => exact ⟨j + 1, by omega, by simp, HN, r, rfl⟩
              case measure => simp [intOf]; omega
    · obtain rfl : k = n := by omega
      have HE := Lib.hid (firstE_zero.2 HA.out)
      go_wp2_with fail
      go_ret
      exact ⟨by rw [HE.out]; rfl, q, rfl⟩
theorem rTab (w : World) (xa : Option Addr) (n cap : Nat) (c : Nat → ByteArray) (p : Nat → Int) (hr : Rt w xa n c p) (hf : FitT n c) :
    Calls Tryz.prog 17 #[.slice xa n cap] w fun e w' => e = .returned (.int .i64 (tabE n c p)) ∧ ∃ q, w' = w.drewN q := by
  unfold tabE
  by_cases h : 16 < n
  · rw [if_pos h]; exact rTab_many w xa n cap h
  · rw [if_neg h]; exact rTab_few w xa n cap c p hr hf (by omega)

end Go.Proofs.YtahnkmkmoalbhaaGreatDoor

/- The reference of layer 5: Great, GreatTable, and the law's long: the walks. -/
namespace Go.Proofs.YtahnkmkmoalbhaaGreatDoor
open Go.RowKit

/-- an amount, or a code, that is longer than the laws examine -/
def longA (s : ByteArray) : Bool := decide (13 < s.size)
def wideB (u v : ByteArray) : Bool := longA v || decide (8 < u.size)
set_option maxRecDepth 100000 in
set_option maxHeartbeats 8000000 in
theorem rLongA (s : ByteArray) (w : World) : Calls Tryz.prog 52 #[.string s] w fun e w' => e = .returned (.bool (longA s)) ∧ w = w' := by
  by_cases h : (13 : Int) < s.size
  · have HD := Lib.hid (show longA s = true from decide_eq_true (by omega))
    go_enter Tryz.func52, Tryz.ntmps52
    go_wp2_with fail
    go_ret
    exact ⟨by rw [HD.out]; simp, rfl⟩
  · have HD := Lib.hid (show longA s = false from decide_eq_false (by omega))
    go_enter Tryz.func52, Tryz.ntmps52
    go_wp2_with fail
    go_ret
    exact ⟨by rw [HD.out]; simp, rfl⟩

set_option maxRecDepth 100000 in
set_option maxHeartbeats 8000000 in
theorem rLongM (c z : ByteArray) (w : World) : Calls Tryz.prog 19 #[.agg #[.string c, .string z]] w fun e w' => e = .returned (.bool (wideB c z)) ∧ Below w.heap.size w w' := by
  have HL := Lib.hid (fun W => rLongA z W)
  obtain ⟨W0, hW0⟩ : ∃ W, W = w.alloc (.cells #[.string c, .string z] 35) := ⟨_, rfl⟩
  have HX := Lib.hid (show PairAt W0 w.heap.size 35 c z by rw [hW0]; exact PairAt.made _ _ _ _)
  have HB := Lib.hid (show Below w.heap.size w W0 by rw [hW0]; exact (Below.refl _ _).alloc (Nat.le_refl _) _)
  obtain ⟨q1, q2, _, _⟩ := HX.out.cells
  cases h1 : longA z with
  | true =>
    have HD := Lib.hid (show wideB c z = true by unfold wideB; rw [h1]; rfl)
    rw [h1] at HL
    clear h1
    go_enter Tryz.func19, Tryz.ntmps19
    go_upto_region 1 with fail
    rw [← hW0]
    clear hW0
    go_wp2_with fail
    refine (HL.out _).mono ?_
    rintro _ _ ⟨rfl, rfl⟩
    go_wp2_with fail
    go_ret
    exact ⟨by rw [HD.out]; rfl, HB.out⟩
  | false =>
    rw [h1] at HL
    by_cases h2 : (8 : Int) < c.size
    · have HD := Lib.hid (show wideB c z = true by unfold wideB; rw [h1, decide_eq_true (by omega)]; rfl)
      clear h1
      go_enter Tryz.func19, Tryz.ntmps19
      go_upto_region 1 with fail
      rw [← hW0]
      clear hW0
      go_wp2_with fail
      refine (HL.out _).mono ?_
      rintro _ _ ⟨rfl, rfl⟩
      go_wp2_with fail
      go_ret
      exact ⟨by rw [HD.out]; simp, HB.out⟩
    · have HD := Lib.hid (show wideB c z = false by unfold wideB; rw [h1, decide_eq_false (by omega)]; rfl)
      clear h1
      go_enter Tryz.func19, Tryz.ntmps19
      go_upto_region 1 with fail
      rw [← hW0]
      clear hW0
      go_wp2_with fail
      refine (HL.out _).mono ?_
      rintro _ _ ⟨rfl, rfl⟩
      go_wp2_with fail
      go_ret
      exact ⟨by rw [HD.out]; simp; omega, HB.out⟩

/-- more, or longer, amounts than the laws examine -/
def greatB (n : Nat) (u v : Nat → ByteArray) : Bool := (List.range (min n 24)).any (fun i => wideB (u i) (v i)) || decide (6 < n ∧ n < 15 ∨ 18 < n)
theorem any_next {P : Nat → Bool} {k : Nat} (h : (List.range k).any P = false) (hp : P k = false) : (List.range (k + 1)).any P = false := by
  rw [List.range_succ, List.any_append, h]; simp [hp]
theorem any_true {P : Nat → Bool} {k n : Nat} (hk : k < n) (hp : P k = true) : (List.range n).any P = true := List.any_eq_true.2 ⟨k, List.mem_range.2 hk, hp⟩
set_option maxRecDepth 100000 in
set_option maxHeartbeats 16000000 in
theorem rGreatB (w : World) (xa : Option Addr) (n cap : Nat) (u v : Nat → ByteArray) (hr : Rf w xa n u v) (hmax : n ≤ 9223372036854775807) :
    Calls Tryz.prog 51 #[.slice xa n cap] w fun e w' => e = .returned (.bool (greatB n u v)) ∧ w = w' := by
  have HR := Lib.hid hr
  clear hr
  go_enter Tryz.func51, Tryz.ntmps51
  go_wp2_with fail
  go_loopw [3] (fun iv wr => ∃ k : Nat, k ≤ n ∧ k ≤ 24 ∧ iv = .int .i64 (k : Int) ∧ Hid ((List.range k).any (fun i => wideB (u i) (v i)) = false) ∧ wr = w) (fun iv _ => n - (intOf iv).toNat)
  case atStart => exact ⟨0, Nat.zero_le _, by omega, rfl, Lib.hid rfl, by first | rfl | trivial⟩
  case round =>
    obtain ⟨k, hk, hk24, rfl, HA, rfl⟩ := hrel
    by_cases hlt : k < n
    · by_cases h24 : k < 24
      · have hw1 : IntKind.i64.wrap ((k : Int) + 1) = (k : Int) + 1 := IntWalk.i64_in _ (by omega)
        have hk24' : (k : Int) < 24 := by omega
        obtain ⟨b, o, rfl, hb, z1, z2⟩ := Rf.at HR.out hlt
        have HL := Lib.hid (fun W => rLongA (v k) W)
        have HT := Lib.hid (show wideB (u k) (v k) = true → greatB n u v = true from fun hh => by
          unfold greatB; rw [any_true (k := k) (by omega) hh]; rfl)
        have HF := Lib.hid (show wideB (u k) (v k) = false → (List.range (k + 1)).any (fun i => wideB (u i) (v i)) = false from fun hh => any_next HA.out hh)
        obtain ⟨uk, huk⟩ : ∃ x, u k = x := ⟨_, rfl⟩
        obtain ⟨vk, hvk⟩ : ∃ x, v k = x := ⟨_, rfl⟩
        rw [huk] at z1
        rw [hvk] at z2 HL
        rw [huk, hvk] at HT HF
        clear huk hvk HA
        cases h1 : longA vk with
        | true =>
          have HD := Lib.hid (HT.out (by unfold wideB; rw [h1]; rfl))
          rw [h1] at HL
          clear h1 HT HF
          go_wp2_with fail
          refine (HL.out _).mono ?_
          rintro _ _ ⟨rfl, rfl⟩
          go_wp2_with fail
          go_ret
          exact ⟨by rw [HD.out]; rfl, rfl⟩
        | false =>
          rw [h1] at HL
          by_cases h2 : (8 : Int) < uk.size
          · have HD := Lib.hid (HT.out (by unfold wideB; rw [h1, decide_eq_true (by omega)]; rfl))
            clear h1 HT HF
            go_wp2_with fail
            refine (HL.out _).mono ?_
            rintro _ _ ⟨rfl, rfl⟩
            go_wp2_with fail
            go_ret
            exact ⟨by rw [HD.out]; rfl, rfl⟩
          · have HD := Lib.hid (HF.out (by unfold wideB; rw [h1, decide_eq_false (by omega)]; rfl))
            clear h1 HT HF
            go_wp2_with fail
            refine (HL.out _).mono ?_
            rintro _ _ ⟨rfl, rfl⟩
            go_wp2_with fail
            go_roundw
            case rel => exact ⟨k + 1, by omega, by omega, by simp, HD, by first | rfl | trivial⟩
            case measure => simp [intOf]; omega
      · have hD : greatB n u v = true := by unfold greatB; rw [decide_eq_true (show 6 < n ∧ n < 15 ∨ 18 < n by omega)]; simp
        have HD := Lib.hid hD
        have i1 : ¬ (k : Int) < 24 := by omega
        have i2 : (6 : Int) < (n : Int) := by omega
        have i3 : ¬ (n : Int) < 15 := by omega
        have i4 : (18 : Int) < (n : Int) := by omega
        clear HA hD
        go_wp2_with fail
        go_ret
        exact ⟨by rw [HD.out]; simp, rfl⟩
    · obtain rfl : k = n := by omega
      have hA : ∀ q, decide (6 < k ∧ k < 15 ∨ 18 < k) = q → greatB k u v = q := fun q hq => by
        unfold greatB
        rw [Nat.min_eq_left hk24, HA.out, hq]; rfl
      by_cases i4 : (18 : Int) < (k : Int)
      · have HD := Lib.hid (hA true (decide_eq_true (by omega)))
        have i2 : (6 : Int) < (k : Int) := by omega
        have i3 : ¬ (k : Int) < 15 := by omega
        clear HA hA
        go_wp2_with fail
        go_ret
        exact ⟨by rw [HD.out]; simp, rfl⟩
      · by_cases i2 : (6 : Int) < (k : Int)
        · by_cases i3 : (k : Int) < 15
          · have HD := Lib.hid (hA true (decide_eq_true (by omega)))
            clear HA hA
            go_wp2_with fail
            go_ret
            exact ⟨by rw [HD.out]; simp, rfl⟩
          · have HD := Lib.hid (hA false (decide_eq_false (by omega)))
            clear HA hA
            go_wp2_with fail
            go_ret
            exact ⟨by rw [HD.out]; simp, rfl⟩
        · have HD := Lib.hid (hA false (decide_eq_false (by omega)))
          clear HA hA
          go_wp2_with fail
          go_ret
          exact ⟨by rw [HD.out]; simp, rfl⟩

/-- more currencies, or longer codes, than the laws examine -/
def greatTb (n : Nat) (c : Nat → ByteArray) : Bool := (List.range (min n 24)).any (fun i => decide (8 < (c i).size)) || decide (18 < n)
theorem greatTb_false {n : Nat} {c : Nat → ByteArray} (h : greatTb n c = false) : n ≤ 18 ∧ ∀ i, i < n → (c i).size ≤ 8 := by
  unfold greatTb at h
  rw [Bool.or_eq_false_iff] at h
  have h2 := of_decide_eq_false h.2
  refine ⟨by omega, fun i hi => ?_⟩
  have h1 := List.any_eq_false.1 h.1 i (List.mem_range.2 (by omega))
  simp at h1
  omega
set_option maxRecDepth 100000 in
set_option maxHeartbeats 16000000 in
theorem rGreatTab (w : World) (xa : Option Addr) (n cap : Nat) (c : Nat → ByteArray) (p : Nat → Int) (hr : Rt w xa n c p) (hmax : n ≤ 9223372036854775807) :
    Calls Tryz.prog 12 #[.slice xa n cap] w fun e w' => e = .returned (.bool (greatTb n c)) ∧ w = w' := by
  have HR := Lib.hid hr
  clear hr
  go_enter Tryz.func12, Tryz.ntmps12
  go_wp2_with fail
  go_loopw [3] (fun iv wr => ∃ k : Nat, k ≤ n ∧ k ≤ 24 ∧ iv = .int .i64 (k : Int) ∧ Hid ((List.range k).any (fun i => decide (8 < (c i).size)) = false) ∧ wr = w) (fun iv _ => n - (intOf iv).toNat)
  case atStart => exact ⟨0, Nat.zero_le _, by omega, rfl, Lib.hid rfl, by first | rfl | trivial⟩
  case round =>
    obtain ⟨k, hk, hk24, rfl, HA, rfl⟩ := hrel
    by_cases hlt : k < n
    · by_cases h24 : k < 24
      · have hw1 : IntKind.i64.wrap ((k : Int) + 1) = (k : Int) + 1 := IntWalk.i64_in _ (by omega)
        have hk24' : (k : Int) < 24 := by omega
        obtain ⟨b, o, rfl, hb, z1, z2⟩ := Rt.at HR.out hlt
        by_cases h2 : (8 : Int) < (c k).size
        · have HD := Lib.hid (show greatTb n c = true by unfold greatTb; rw [any_true (k := k) (by omega) (decide_eq_true (by omega))]; rfl)
          obtain ⟨uk, huk⟩ : ∃ x, c k = x := ⟨_, rfl⟩
          rw [huk] at z1 h2
          clear huk HA
          go_wp2_with fail
          go_ret
          exact ⟨by rw [HD.out]; rfl, rfl⟩
        · have HD := Lib.hid (any_next (P := fun i => decide (8 < (c i).size)) HA.out (decide_eq_false (by omega)))
          obtain ⟨uk, huk⟩ : ∃ x, c k = x := ⟨_, rfl⟩
          rw [huk] at z1 h2
          clear huk HA
          go_wp2_with fail
          go_roundw
          case rel => exact ⟨k + 1, by omega, by omega, by simp, HD, by first | rfl | trivial⟩
          case measure => simp [intOf]; omega
      · have hD : greatTb n c = true := by unfold greatTb; rw [decide_eq_true (show 18 < n by omega)]; simp
        have HD := Lib.hid hD
        have i1 : ¬ (k : Int) < 24 := by omega
        have i4 : (18 : Int) < (n : Int) := by omega
        clear HA hD
        go_wp2_with fail
        go_ret
        exact ⟨by rw [HD.out]; simp, rfl⟩
    · obtain rfl : k = n := by omega
      have hA : ∀ q, decide (18 < k) = q → greatTb k c = q := fun q hq => by
        unfold greatTb
        rw [Nat.min_eq_left hk24, HA.out, hq]; rfl
      by_cases i4 : (18 : Int) < (k : Int)
      · have HD := Lib.hid (hA true (decide_eq_true (by omega)))
        clear HA hA
        go_wp2_with fail
        go_ret
        exact ⟨by rw [HD.out]; simp, rfl⟩
      · have HD := Lib.hid (hA false (decide_eq_false (by omega)))
        clear HA hA
        go_wp2_with fail
        go_ret
        exact ⟨by rw [HD.out]; simp, rfl⟩

end Go.Proofs.YtahnkmkmoalbhaaGreatDoor

/- Layer 5: amounts compared with ==; slices.Equal of amounts: the walk. -/
namespace Go.Proofs.YtahnkmkmoalbhaaGreatDoor
open Go.RowKit

theorem money_guard (op : BinOp) (x y : Operand) (a b c d : ByteArray) (W : World) : (eqGuard op 35 x y (.agg #[.string a, .string b]) (.agg #[.string c, .string d])).run Tryz.prog W = .ok () W :=
  run_eqGuard_agg W op _ x y _ _ (by kernel_rfl)
theorem money_equal (a b c d : ByteArray) (W : World) : (Op.equalIn 10000 35 (.agg #[.string a, .string b]) (.agg #[.string c, .string d])).run Tryz.prog W = .ok (a.toList == c.toList && b.toList == d.toList) W := by
  rw [run_equalIn_agg W 9999 35 _ _ (by kernel_rfl) (by kernel_rfl)]
  have hf : (Tryz.prog.fieldsOf 35).toList = [⟨"Currency", 9, 0, false, "", "", 0⟩, ⟨"Amount", 33, 1, false, "", "", 16⟩] := by kernel_rfl
  rw [hf]
  simp [Op.eqFields, go_sem]
  by_cases h1 : a.toList = c.toList
  · by_cases h2 : b.toList = d.toList
    · simp [h1, h2]
    · rw [if_pos h1, if_neg h2]; simp [h2]
  · rw [if_neg h1]; simp [h1]
theorem money_neq (a b c d : ByteArray) (W : World) : (binOp .neq 35 (.agg #[.string a, .string b]) (.agg #[.string c, .string d])).run Tryz.prog W = .ok (.bool (!(a.toList == c.toList && b.toList == d.toList))) W := by
  rw [run_neq_struct, money_equal]; rfl
theorem money_eql (a b c d : ByteArray) (W : World) : (binOp .eql 35 (.agg #[.string a, .string b]) (.agg #[.string c, .string d])).run Tryz.prog W = .ok (.bool (a.toList == c.toList && b.toList == d.toList)) W := by
  rw [run_eql_struct, money_equal]; rfl
theorem money_other {a b c d : ByteArray} (h : ¬ (a = c ∧ b = d)) : (a.toList == c.toList && b.toList == d.toList) = false := by
  rw [beq_toList, beq_toList, Bool.and_eq_false_iff]
  by_cases h1 : a = c
  · exact .inr (decide_eq_false (fun h2 => h ⟨h1, h2⟩))
  · exact .inl (decide_eq_false h1)
theorem money_nsame (a b : ByteArray) (W : World) : (binOp .neq 35 (.agg #[.string a, .string b]) (.agg #[.string a, .string b])).run Tryz.prog W = .ok (.bool false) W := by
  rw [money_neq]; simp
theorem money_ndiffer {a b c d : ByteArray} (h : ¬ (a = c ∧ b = d)) (W : World) : (binOp .neq 35 (.agg #[.string a, .string b]) (.agg #[.string c, .string d])).run Tryz.prog W = .ok (.bool true) W := by
  rw [money_neq, money_other h]; rfl

/-- two rows are the same -/
def sameM (n : Nat) (u v s t : Nat → ByteArray) : Bool := decide (∀ i, i < n → u i = s i ∧ v i = t i)
set_option maxRecDepth 100000 in
set_option maxHeartbeats 8000000 in
theorem eqMoney (w : World) (xa ya : Option Addr) (n cap cap' : Nat) (u v s t : Nat → ByteArray) (hx : Rf w xa n u v) (hy : Rf w ya n s t) (hlim : n ≤ 100000) :
    Calls Tryz.prog 28 #[.slice xa n cap, .slice ya n cap'] w fun e w' => e = .returned (.bool (sameM n u v s t)) ∧ ∃ q, w' = w.drewN q := by
  have HX := Lib.hid hx
  have HY := Lib.hid hy
  clear hx hy
  go_enter Tryz.func28, Tryz.ntmps28
  go_wp2_with fail
  go_loopw [13] (fun iv wr => ∃ k : Nat, k ≤ n ∧ iv = .int .i64 (k : Int) ∧ Hid (∀ i, i < k → u i = s i ∧ v i = t i) ∧ ∃ q, wr = w.drewN q) (fun iv _ => n - (intOf iv).toNat)
  case atStart => exact ⟨0, Nat.zero_le _, rfl, Lib.hid (fun i hi => absurd hi (by omega)), 0, rfl⟩
  case round =>
    obtain ⟨k, hk, rfl, HL, q, rfl⟩ := hrel
    by_cases hlt : k < n
    · obtain ⟨b, o, rfl, hb, hck, hck1⟩ := Rf.at HX.out hlt
      obtain ⟨b2, o2, rfl, hb2, hck2, hck3⟩ := Rf.at HY.out hlt
      by_cases he : u k = s k ∧ v k = t k
      · have HN := Lib.hid (show ∀ i, i < k + 1 → u i = s i ∧ v i = t i from fun i hi => by
          by_cases e : i = k
          · rw [e]; exact he
          · exact HL.out i (by omega))
        rw [← he.1] at hck2
        rw [← he.2] at hck3
        obtain ⟨x, hxx⟩ : ∃ x, u k = x := ⟨_, rfl⟩
        obtain ⟨y, hyy⟩ : ∃ y, v k = y := ⟨_, rfl⟩
        rw [hxx] at hck hck2
        rw [hyy] at hck1 hck3
        have hfg := fun X Y W => money_guard .neq X Y x y x y W
        have hfs := money_nsame x y
        clear hxx hyy he HL
        go_wp2_with fail
        go_quiet (fail)
        go_wp2_with fail
        go_roundw
        case rel => exact ⟨k + 1, by omega, by simp, HN, _, rfl⟩
        case measure => simp [intOf]; omega
      · have HD := Lib.hid (show sameM n u v s t = false from decide_eq_false fun h => he (h k hlt))
        obtain ⟨x, hxx⟩ : ∃ x, u k = x := ⟨_, rfl⟩
        obtain ⟨y, hyy⟩ : ∃ y, v k = y := ⟨_, rfl⟩
        obtain ⟨x2, hxx2⟩ : ∃ x, s k = x := ⟨_, rfl⟩
        obtain ⟨y2, hyy2⟩ : ∃ y, t k = y := ⟨_, rfl⟩
        rw [hxx] at hck he
        rw [hyy] at hck1 he
        rw [hxx2] at hck2 he
        rw [hyy2] at hck3 he
        have hfg := fun X Y W => money_guard .neq X Y x y x2 y2 W
        have hfs := money_ndiffer he
        clear hxx hyy hxx2 hyy2 he HL
        go_wp2_with fail
        go_quiet (fail)
        rename_i nq
        go_wp2_with fail
        go_ret
        exact ⟨by rw [HD.out]; rfl, q + nq, World.drewN_drewN _ _ _⟩
    · obtain rfl : k = n := by omega
      have HD := Lib.hid (show sameM k u v s t = true from decide_eq_true HL.out)
      go_wp2_with fail
      go_ret
      exact ⟨by rw [HD.out]; rfl, q, rfl⟩

end Go.Proofs.YtahnkmkmoalbhaaGreatDoor

/- slices.IndexFunc and ContainsFunc with the predicates of layer 5; the laws' great: the walks. -/
namespace Go.Proofs.YtahnkmkmoalbhaaGreatDoor
open Go.RowKit

/-- bags in memory: m of them -/
structure Bags (w : World) (xa : Option Addr) (m : Nat) (xs : Nat → Option Addr) (ns cs : Nat → Nat) (u v : Nat → Nat → ByteArray) : Prop where
  row : Rc w xa m fun i => .slice (xs i) (ns i) (cs i)
  each : ∀ i, i < m → Rf w (xs i) (ns i) (u i) (v i)
  max : ∀ i, i < m → ns i ≤ 9223372036854775807
end Go.Proofs.YtahnkmkmoalbhaaGreatDoor
