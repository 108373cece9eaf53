/- The plain mathematics of numbers in groups of nine digits, the lowest group first: value, sums in place, products, quotients. It imports nothing of the program. -/
import Derived.Test.YtldohkfomdcpoaaGreatDoorNum
namespace Go.Proofs.YtldohkfomdcpoaaGreatDoor.Num
open Go.Lib (decDigits)

def gval : List Int → Int
  | [] => 0
  | g :: gs => g + B * gval gs

def Norm (zs : List Int) : Prop := ∀ z ∈ zs, 0 ≤ z ∧ z < B
def Can (zs : List Int) : Prop := Norm zs ∧ zs.getLast? ≠ some 0

theorem Norm.nil : Norm [] := fun _ h => by cases h
theorem Can.nil : Can [] := ⟨Norm.nil, by simp⟩
theorem Norm.cons {z : Int} {zs : List Int} (h0 : 0 ≤ z) (h1 : z < B) (h : Norm zs) : Norm (z :: zs) := fun x hx => by
  rcases List.mem_cons.1 hx with rfl | hx
  · exact ⟨h0, h1⟩
  · exact h x hx
theorem Norm.append {xs ys : List Int} (h : Norm xs) (k : Norm ys) : Norm (xs ++ ys) := fun z hz => by
  rcases List.mem_append.1 hz with hz | hz
  · exact h z hz
  · exact k z hz
theorem Norm.left {xs ys : List Int} (h : Norm (xs ++ ys)) : Norm xs := fun z hz => h z (List.mem_append.2 (.inl hz))
theorem Norm.right {xs ys : List Int} (h : Norm (xs ++ ys)) : Norm ys := fun z hz => h z (List.mem_append.2 (.inr hz))
theorem Norm.take {xs : List Int} (h : Norm xs) (k : Nat) : Norm (xs.take k) := fun z hz => h z (List.mem_of_mem_take hz)
theorem Norm.drop {xs : List Int} (h : Norm xs) (k : Nat) : Norm (xs.drop k) := fun z hz => h z (List.mem_of_mem_drop hz)
theorem Norm.zeros (n : Nat) : Norm (List.replicate n 0) := fun z hz => by
  rw [List.eq_of_mem_replicate hz]; decide
theorem Norm.at {xs : List Int} (h : Norm xs) {i : Nat} (hi : i < xs.length) : 0 ≤ xs[i] ∧ xs[i] < B := h _ (List.getElem_mem hi)
theorem Norm.one {z : Int} (h0 : 0 ≤ z) (h1 : z < B) : Norm [z] := Norm.cons h0 h1 Norm.nil

theorem Bpow_pos (n : Nat) : 0 < B ^ n := Int.pow_pos (by decide)

theorem gval_append (xs ys : List Int) : gval (xs ++ ys) = gval xs + B ^ xs.length * gval ys := by
  induction xs with
  | nil => simp [gval]
  | cons x xs ih =>
    simp only [List.cons_append, gval, List.length_cons, Int.pow_succ]
    rw [ih, Int.mul_add, Int.add_assoc, Int.mul_comm (B ^ xs.length) B, Int.mul_assoc]
theorem gval_one (z : Int) : gval [z] = z := by simp [gval]
theorem gval_snoc (xs : List Int) (z : Int) : gval (xs ++ [z]) = gval xs + B ^ xs.length * z := by rw [gval_append, gval_one]
theorem gval_zeros (n : Nat) : gval (List.replicate n 0) = 0 := by
  induction n with
  | zero => rfl
  | succ n ih => simp [List.replicate_succ, gval, ih]

theorem gval_bounds {zs : List Int} (h : Norm zs) : 0 ≤ gval zs ∧ gval zs < B ^ zs.length := by
  induction zs with
  | nil => simp [gval]
  | cons z zs ih =>
    have hz := h z (List.mem_cons_self ..)
    have := ih (fun x hx => h x (List.mem_cons_of_mem _ hx))
    simp only [gval, List.length_cons, Int.pow_succ]
    generalize gval zs = g at this ⊢
    generalize B ^ zs.length = p at this ⊢
    unfold B at *
    omega
theorem gval_nonneg {zs : List Int} (h : Norm zs) : 0 ≤ gval zs := (gval_bounds h).1
theorem gval_lt {zs : List Int} (h : Norm zs) : gval zs < B ^ zs.length := (gval_bounds h).2

theorem Can.tail {z : Int} {zs : List Int} (h : Can (z :: zs)) : Can zs := by
  refine ⟨fun x hx => h.1 x (List.mem_cons_of_mem _ hx), ?_⟩
  have := h.2
  cases zs with
  | nil => simp
  | cons y ys => simpa [List.getLast?_cons_cons] using this

theorem gval_pos {zs : List Int} (h : Can zs) (h0 : zs ≠ []) : 0 < gval zs := by
  induction zs with
  | nil => exact absurd rfl h0
  | cons z zs ih =>
    have hz := h.1 z (List.mem_cons_self ..)
    by_cases hzs : zs = []
    · subst hzs
      have := h.2
      simp at this
      simp only [gval]; omega
    · have := ih h.tail hzs
      simp only [gval]; unfold B at *; omega

theorem gval_ge {zs : List Int} (h : Can zs) (h0 : zs ≠ []) : B ^ (zs.length - 1) ≤ gval zs := by
  obtain ⟨r, c, rfl⟩ : ∃ r c, zs = r ++ [c] := ⟨zs.dropLast, zs.getLast h0, (List.dropLast_concat_getLast h0).symm⟩
  have h1 := h.2
  have hc := h.1 c (by simp)
  rw [List.getLast?_append] at h1
  simp at h1
  rw [gval_snoc]
  have hr := gval_nonneg h.1.left
  have hp := Bpow_pos r.length
  simp only [List.length_append, List.length_cons, List.length_nil, Nat.add_sub_cancel, Nat.zero_add]
  have := Int.mul_le_mul_of_nonneg_left (show 1 ≤ c by omega) (Int.le_of_lt hp)
  omega

theorem gval_eq_zero {zs : List Int} (h : Can zs) : gval zs = 0 ↔ zs = [] := by
  constructor
  · intro e
    by_cases h0 : zs = []
    · exact h0
    · have := gval_pos h h0; omega
  · rintro rfl; rfl

theorem gval_inj : ∀ {xs ys : List Int}, Can xs → Can ys → gval xs = gval ys → xs = ys
  | [], ys, _, hy, e => ((gval_eq_zero hy).1 e.symm).symm
  | x :: xs, [], hx, _, e => (gval_eq_zero hx).1 e
  | x :: xs, y :: ys, hx, hy, e => by
    have h1 := hx.1 x (List.mem_cons_self ..)
    have h2 := hy.1 y (List.mem_cons_self ..)
    simp only [gval] at e
    have e1 : x = y := by unfold B at *; omega
    have e2 : gval xs = gval ys := by unfold B at *; omega
    rw [e1, gval_inj hx.tail hy.tail e2]

theorem Bpow_mono {m n : Nat} (h : m ≤ n) : B ^ m ≤ B ^ n := by
  obtain ⟨k, rfl⟩ := Nat.exists_eq_add_of_le h
  rw [Int.pow_add]
  have := Int.mul_le_mul_of_nonneg_left (show 1 ≤ B ^ k from Bpow_pos k) (Int.le_of_lt (Bpow_pos m))
  omega

theorem gval_lt_of_length {xs ys : List Int} (hx : Can xs) (hy : Can ys) (h : xs.length < ys.length) : gval xs < gval ys := by
  have h1 := gval_lt hx.1
  have h2 := gval_ge hy (by rintro rfl; simp at h)
  have := Bpow_mono (show xs.length ≤ ys.length - 1 by omega)
  omega

/-- two numbers of one length, equal above place i -/
theorem gval_lt_at {xs ys : List Int} (hx : Norm xs) (hy : Norm ys) (i : Nat) (hxi : i < xs.length) (hyi : i < ys.length) (hup : xs.drop (i + 1) = ys.drop (i + 1)) (h : xs[i] < ys[i]) : gval xs < gval ys := by
  have ex : xs = xs.take i ++ xs[i] :: xs.drop (i + 1) := by rw [← List.drop_eq_getElem_cons hxi, List.take_append_drop]
  have ey : ys = ys.take i ++ ys[i] :: ys.drop (i + 1) := by rw [← List.drop_eq_getElem_cons hyi, List.take_append_drop]
  have h1 := gval_lt (hx.take i)
  have h2 := gval_nonneg (hy.take i)
  rw [ex, ey, gval_append, gval_append, hup]
  rw [List.length_take, Nat.min_eq_left (by omega)] at h1
  rw [List.length_take, List.length_take, Nat.min_eq_left (by omega), Nat.min_eq_left (by omega)]
  simp only [gval]
  generalize gval (List.drop (i + 1) ys) = G at *
  have h4 : B ^ i * (xs[i] + B * G) + B ^ i ≤ B ^ i * (ys[i] + B * G) := by
    have := Int.mul_le_mul_of_nonneg_left (show xs[i] + B * G + 1 ≤ ys[i] + B * G by omega) (Int.le_of_lt (Bpow_pos i))
    rw [Int.mul_add, Int.mul_one] at this
    exact this
  omega

/-! ### zeros at the end -/

theorem gval_take_zeros {zs : List Int} {k : Nat} (h : ∀ j, k ≤ j → (hj : j < zs.length) → zs[j] = 0) : gval (zs.take k) = gval zs := by
  have e : zs.drop k = List.replicate (zs.length - k) 0 := by
    apply List.ext_getElem
    · simp
    · intro i h1 h2
      simp only [List.getElem_drop, List.getElem_replicate]
      exact h _ (by omega) (by simp at h1; omega)
  conv => rhs; rw [← List.take_append_drop k zs, gval_append, e, gval_zeros]
  simp

/-- what trim leaves -/
def trimmed (zs : List Int) : List Int := (zs.reverse.dropWhile (· == 0)).reverse

theorem trimmed_nil : trimmed [] = [] := rfl
theorem trimmed_snoc_zero (zs : List Int) : trimmed (zs ++ [0]) = trimmed zs := by simp [trimmed]
theorem trimmed_snoc (zs : List Int) {z : Int} (h : z ≠ 0) : trimmed (zs ++ [z]) = zs ++ [z] := by
  simp [trimmed, h]
theorem gval_trimmed (zs : List Int) : gval (trimmed zs) = gval zs := by
  suffices ∀ n (zs : List Int), zs.length = n → gval (trimmed zs) = gval zs from this _ zs rfl
  intro n
  induction n with
  | zero => intro zs h; rw [List.length_eq_zero_iff.1 h]; rfl
  | succ n ih =>
    intro zs h
    have h0 : zs ≠ [] := by rintro rfl; simp at h
    obtain ⟨r, c, rfl⟩ : ∃ r c, zs = r ++ [c] := ⟨zs.dropLast, zs.getLast h0, (List.dropLast_concat_getLast h0).symm⟩
    by_cases hc : c = 0
    · subst hc
      rw [trimmed_snoc_zero, ih r (by simpa using h), gval_snoc]; simp
    · rw [trimmed_snoc r hc]
theorem trimmed_prefix (zs : List Int) : trimmed zs <+: zs := by
  unfold trimmed
  have := List.dropWhile_suffix (l := zs.reverse) (· == 0)
  rw [← List.reverse_prefix] at this
  simpa using this
theorem Can.trimmed {zs : List Int} (h : Norm zs) : Can (trimmed zs) := by
  refine ⟨fun z hz => h z ((trimmed_prefix zs).subset hz), ?_⟩
  unfold Num.trimmed
  rw [List.getLast?_reverse]
  have := List.head?_dropWhile_not (fun x : Int => x == 0) zs.reverse
  cases hd : (List.dropWhile (fun x => x == 0) zs.reverse).head? with
  | none => simp
  | some c => rw [hd] at this; simpa using this
theorem trimmed_can {zs : List Int} (h : Can zs) : trimmed zs = zs := by
  by_cases h0 : zs = []
  · subst h0; rfl
  · obtain ⟨r, c, rfl⟩ : ∃ r c, zs = r ++ [c] := ⟨zs.dropLast, zs.getLast h0, (List.dropLast_concat_getLast h0).symm⟩
    refine trimmed_snoc r ?_
    have := h.2
    rw [List.getLast?_append] at this
    simpa using this

/-! ### from digits to groups -/

def seg (d : Bs) (i : Nat) : Bs := (d.take (d.length - 9 * i)).drop (d.length - 9 * (i + 1))
def grps (d : Bs) : List Int := (List.range ((d.length + 8) / 9)).map fun i => (num (seg d i) : Int)

theorem grps_length (d : Bs) : (grps d).length = (d.length + 8) / 9 := by simp [grps]

theorem all_seg {d : Bs} (h : d.all isDig = true) (i : Nat) : (seg d i).all isDig = true := by
  rw [List.all_eq_true] at *
  intro c hc
  exact h c (List.mem_of_mem_take (List.mem_of_mem_drop hc))
theorem seg_length (d : Bs) (i : Nat) : (seg d i).length ≤ 9 := by
  simp [seg]; omega
theorem num_seg_lt {d : Bs} (h : d.all isDig = true) (i : Nat) : num (seg d i) < 1000000000 := by
  have h1 := num_lt _ (all_seg h i)
  have := Nat.pow_le_pow_right (show 1 ≤ 10 by decide) (seg_length d i)
  omega

theorem take_seg (d : Bs) (k : Nat) : d.take (d.length - 9 * k) = d.take (d.length - 9 * (k + 1)) ++ seg d k := by
  conv => lhs; rw [← List.take_append_drop (d.length - 9 * (k + 1)) (d.take (d.length - 9 * k))]
  rw [List.take_take, Nat.min_eq_left (by omega)]
  rfl

theorem gval_range (d : Bs) (k : Nat) : gval ((List.range k).map fun i => (num (seg d i) : Int)) + B ^ k * num (d.take (d.length - 9 * k)) = num d := by
  induction k with
  | zero => simp [gval]
  | succ k ih =>
    rw [List.range_succ, List.map_append, List.map_cons, List.map_nil, gval_snoc]
    rw [take_seg d k, num_append] at ih
    simp only [List.length_map, List.length_range]
    rw [Int.natCast_add, Int.natCast_mul] at ih
    rw [← ih, Int.pow_succ, Int.mul_add, Int.add_assoc]
    congr 1
    rw [Int.add_comm]
    congr 1
    by_cases h : 9 * (k + 1) ≤ d.length
    · have hl : (seg d k).length = 9 := by simp [seg]; omega
      rw [hl, Int.mul_assoc, Int.mul_comm ((num (List.take (d.length - 9 * (k + 1)) d) : Nat) : Int)]
      congr 1
    · rw [show d.length - 9 * (k + 1) = 0 by omega]
      simp [num]

theorem gval_grps (d : Bs) : gval (grps d) = num d := by
  have := gval_range d ((d.length + 8) / 9)
  rw [show d.length - 9 * ((d.length + 8) / 9) = 0 by omega] at this
  simp [num] at this
  exact this

theorem Can.grps {d : Bs} (h : Plain d) : Can (grps d) := by
  refine ⟨fun z hz => ?_, ?_⟩
  · obtain ⟨i, _, rfl⟩ := List.mem_map.1 hz
    have := num_seg_lt h.1 i
    unfold B
    omega
  · by_cases h0 : d = []
    · subst h0; simp [Num.grps]
    · obtain ⟨k, hk⟩ : ∃ k, (d.length + 8) / 9 = k + 1 := ⟨(d.length + 8) / 9 - 1, by
        have := List.length_pos_iff.2 h0; omega⟩
      unfold Num.grps
      rw [hk, List.range_succ, List.map_append, List.map_cons, List.map_nil, List.getLast?_append]
      simp only [List.getLast?_singleton, Option.some_or, ne_eq, Option.some.injEq]
      have e : seg d k = d.take (d.length - 9 * k) := by
        unfold seg; rw [show d.length - 9 * (k + 1) = 0 by omega, List.drop_zero]
      have hp : Plain (seg d k) := by
        refine ⟨all_seg h.1 k, ?_⟩
        rw [e]
        have := h.2
        cases d with
        | nil => simp
        | cons c d =>
          rw [show (c :: d).length - 9 * k = ((c :: d).length - 9 * k - 1) + 1 by simp at hk ⊢; omega, List.take_succ_cons]
          simpa using this
      have := num_pos hp (by
        rw [e]
        intro hn
        have := congrArg List.length hn
        simp at this
        omega)
      omega

/-! ### from groups to digits -/

theorem decDigits_pad (k : Nat) : ∀ (n g : Nat), 1 ≤ n → g < 10 ^ k → decDigits (n * 10 ^ k + g) = decDigits n ++ (decDigits (10 ^ k + g)).tail := by
  induction k with
  | zero =>
    intro n g hn hg
    obtain rfl : g = 0 := by simpa using hg
    simp only [Nat.pow_zero, Nat.mul_one, Nat.add_zero]
    rw [show (decDigits 1).tail = [] by rw [decDigits, dif_pos (by decide)]; rfl, List.append_nil]
  | succ k ih =>
    intro n g hn hg
    rw [Nat.pow_succ] at hg ⊢
    have hp : 1 ≤ 10 ^ k := Nat.one_le_pow _ _ (by decide)
    have h1 : 10 ^ k ≤ n * 10 ^ k := by have := Nat.mul_le_mul_right (10 ^ k) hn; omega
    have e1 : n * (10 ^ k * 10) + g = 10 * (n * 10 ^ k) + g := by rw [← Nat.mul_assoc, Nat.mul_comm]
    rw [e1]
    have q1 : (10 * (n * 10 ^ k) + g) / 10 = n * 10 ^ k + g / 10 := by omega
    have q2 : (10 * (n * 10 ^ k) + g) % 10 = g % 10 := by omega
    have q3 : (10 ^ k * 10 + g) / 10 = 10 ^ k + g / 10 := by omega
    have q4 : (10 ^ k * 10 + g) % 10 = g % 10 := by omega
    have e2 : decDigits (10 ^ k * 10 + g) = decDigits (10 ^ k + g / 10) ++ [UInt8.ofNat (48 + g % 10)] := by
      rw [decDigits, dif_neg (by omega), q3, q4]
    rw [decDigits, dif_neg (by omega), q1, q2, e2]
    rw [ih n (g / 10) hn (by omega), List.tail_append_of_ne_nil (decDigits_ne _), List.append_assoc]

def pad9 (g : Int) : Bs := (Lib.itoa (1000000000 + g)).tail

theorem itoa_nat (n : Nat) : Lib.itoa (n : Int) = decDigits n := by
  unfold Lib.itoa; rw [if_neg (by omega)]; simp

/-- the digits of a number that is more than 0 -/
def dig1 (z : Int) : Bs := decDigits z.toNat

theorem dig1_step {n g : Int} (hn : 1 ≤ n) (h0 : 0 ≤ g) (h1 : g < B) : dig1 (g + B * n) = dig1 n ++ pad9 g := by
  obtain ⟨a, rfl⟩ := Int.eq_ofNat_of_zero_le (show 0 ≤ n by omega)
  obtain ⟨b, rfl⟩ := Int.eq_ofNat_of_zero_le h0
  have := decDigits_pad 9 a b (by omega) (by unfold B at h1; omega)
  unfold dig1 pad9
  rw [show ((b : Int) + B * a).toNat = a * 10 ^ 9 + b by unfold B; omega, show (a : Int).toNat = a by omega, this,
    show (1000000000 : Int) + b = ((1000000000 + b : Nat) : Int) by omega, itoa_nat]

theorem dig1_itoa {n : Int} (hn : 0 ≤ n) : Lib.itoa n = dig1 n := by
  obtain ⟨a, rfl⟩ := Int.eq_ofNat_of_zero_le hn
  rw [itoa_nat]; rfl

theorem canon_pos {z : Int} (h : 0 < z) : canon z = dig1 z := by
  unfold canon digs dig1
  rw [if_neg (by omega), if_neg (by omega)]
  congr 1; omega
theorem canon_neg {z : Int} (h : 0 < z) : canon (-z) = 45 :: dig1 z := by
  unfold canon digs dig1
  rw [if_pos (by omega), if_neg (by omega)]
  congr 2; omega
theorem canon_zero : canon 0 = [] := rfl

end Go.Proofs.YtldohkfomdcpoaaGreatDoor.Num
