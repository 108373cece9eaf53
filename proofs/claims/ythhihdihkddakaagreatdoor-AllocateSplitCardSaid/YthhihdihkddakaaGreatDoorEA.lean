/- Plain mathematics of layer 4: the places of remainders, and a number divided by weights. -/
import Init
namespace Go.Proofs.YthhihdihkddakaaGreatDoor.Num

/-! ### Who stands ahead: the greater remainder, of equal ones the lower place -/
def ahd (r : Nat → Nat) (j i : Nat) : Bool := decide (r i < r j ∨ (r j = r i ∧ j < i))
theorem ahd_iff {r : Nat → Nat} {j i : Nat} : ahd r j i = true ↔ r i < r j ∨ (r j = r i ∧ j < i) := by unfold ahd; exact decide_eq_true_iff
theorem ahd_irrefl (r : Nat → Nat) (i : Nat) : ¬ ahd r i i = true := by rw [ahd_iff]; omega
theorem ahd_asymm {r : Nat → Nat} {i j : Nat} (h : ahd r i j = true) : ¬ ahd r j i = true := by rw [ahd_iff] at *; omega
theorem ahd_trans {r : Nat → Nat} {i j k : Nat} (h : ahd r i j = true) (g : ahd r j k = true) : ahd r i k = true := by rw [ahd_iff] at *; omega
theorem ahd_total (r : Nat → Nat) {i j : Nat} (h : i ≠ j) : ahd r i j = true ∨ ahd r j i = true := by rw [ahd_iff, ahd_iff]; omega
/-- how many of n places stand ahead of place i -/
def rk (r : Nat → Nat) (n i : Nat) : Nat := (List.range n).countP fun j => ahd r j i

def ahdE (r : Nat → Nat) (a b : Nat) : Bool := decide (a = b) || ahd r a b
theorem ahdE_iff {r : Nat → Nat} {a b : Nat} : ahdE r a b = true ↔ a = b ∨ ahd r a b = true := by unfold ahdE; rw [Bool.or_eq_true, decide_eq_true_iff]
/-- the places in their order -/
def placed (r : Nat → Nat) (n : Nat) : List Nat := (List.range n).mergeSort (ahdE r)
theorem placed_perm (r : Nat → Nat) (n : Nat) : (placed r n).Perm (List.range n) := List.mergeSort_perm _ _
theorem placed_sorted (r : Nat → Nat) (n : Nat) : (placed r n).Pairwise fun a b => ahd r a b = true := by
  have h1 : (placed r n).Pairwise fun a b => ahdE r a b = true := List.pairwise_mergeSort
    (fun a b c h g => by
      rw [ahdE_iff] at *
      rcases h with rfl | h
      · exact g
      · rcases g with rfl | g
        · exact Or.inr h
        · exact Or.inr (ahd_trans h g))
    (fun a b => by
      rw [Bool.or_eq_true, ahdE_iff, ahdE_iff]
      by_cases h : a = b
      · exact Or.inl (Or.inl h)
      · rcases ahd_total r h with k | k
        · exact Or.inl (Or.inr k)
        · exact Or.inr (Or.inr k)) _
  have h2 : (placed r n).Nodup := (placed_perm r n).nodup_iff.2 List.nodup_range
  have h3 := List.Pairwise.and h1 h2
  exact h3.imp fun h => by
    rcases ahdE_iff.1 h.1 with e | e
    · exact absurd e h.2
    · exact e
theorem rk_part {r : Nat → Nat} {n a : Nat} {l m : List Nat} (h : placed r n = l ++ a :: m) : rk r n a = l.length := by
  have hs := placed_sorted r n
  rw [h, List.pairwise_append] at hs
  obtain ⟨_, h2, h3⟩ := hs
  have h4 := (List.pairwise_cons.1 h2).1
  unfold rk
  rw [← (placed_perm r n).countP_eq, h, List.countP_append, List.countP_cons_of_neg (p := fun j => ahd r j a) (ahd_irrefl r a)]
  rw [List.countP_eq_length.2 (fun b hb => h3 b hb a (List.mem_cons_self ..)), List.countP_eq_zero.2 (fun b hb => ahd_asymm (h4 b hb)), Nat.add_zero]
theorem rk_at {r : Nat → Nat} {n i : Nat} (hi : i < n) : ∃ l m, placed r n = l ++ i :: m ∧ rk r n i = l.length := by
  have h : i ∈ placed r n := (placed_perm r n).mem_iff.2 (List.mem_range.2 hi)
  obtain ⟨l, m, e⟩ := List.append_of_mem h
  exact ⟨l, m, e, rk_part e⟩
theorem placed_length (r : Nat → Nat) (n : Nat) : (placed r n).length = n := by rw [(placed_perm r n).length_eq, List.length_range]
theorem rk_lt {r : Nat → Nat} {n i : Nat} (hi : i < n) : rk r n i < n := by
  obtain ⟨l, m, e, k⟩ := rk_at (r := r) hi
  have := placed_length r n
  rw [e] at this
  simp at this
  omega
theorem rk_get {r : Nat → Nat} {n i : Nat} (hi : i < n) : (placed r n)[rk r n i]? = some i := by
  obtain ⟨l, m, e, k⟩ := rk_at (r := r) hi
  rw [k, e, List.getElem?_append_right (Nat.le_refl _), Nat.sub_self]
  rfl
theorem rk_inj {r : Nat → Nat} {n i j : Nat} (hi : i < n) (hj : j < n) (h : rk r n i = rk r n j) : i = j := by
  have h1 := rk_get (r := r) hi
  rw [h, rk_get hj] at h1
  injection h1 with h1
  exact h1.symm
theorem ahd_of_rk {r : Nat → Nat} {n i j : Nat} (hi : i < n) (hj : j < n) (h : rk r n i < rk r n j) : ahd r i j = true := by
  obtain ⟨l, m, e, k⟩ := rk_at (r := r) hj
  have h1 := rk_get (r := r) hi
  rw [e, List.getElem?_append_left (by omega)] at h1
  have hs := placed_sorted r n
  rw [e, List.pairwise_append] at hs
  exact hs.2.2 i (List.mem_of_getElem? h1) j (List.mem_cons_self ..)
/-- the places are in the order of who stands ahead -/
theorem rk_lt_iff {r : Nat → Nat} {n i j : Nat} (hi : i < n) (hj : j < n) : rk r n i < rk r n j ↔ ahd r i j = true := by
  refine ⟨ahd_of_rk hi hj, fun h => ?_⟩
  rcases Nat.lt_trichotomy (rk r n i) (rk r n j) with k | k | k
  · exact k
  · have := rk_inj hi hj k
    subst this
    exact absurd h (ahd_irrefl r i)
  · exact absurd h (ahd_asymm (ahd_of_rk hj hi k))
theorem rk_count_go {r : Nat → Nat} {n : Nat} (m : Nat) : ∀ (t l : List Nat), placed r n = l ++ t → t.countP (fun i => decide (rk r n i < m)) = min (m - l.length) t.length
  | [], l, _ => by simp
  | a :: t, l, h => by
    have h1 := rk_part h
    have h2 := rk_count_go m t (l ++ [a]) (by rw [h]; simp)
    rw [List.length_append, List.length_singleton] at h2
    rw [List.countP_cons, h2, h1, List.length_cons]
    by_cases hm : l.length < m
    · rw [decide_eq_true hm, if_pos rfl]; omega
    · rw [decide_eq_false hm, if_neg (by decide)]; omega
/-- the first m places are m -/
theorem rk_count {r : Nat → Nat} {n m : Nat} (h : m ≤ n) : (List.range n).countP (fun i => decide (rk r n i < m)) = m := by
  rw [← (placed_perm r n).countP_eq, rk_count_go m (placed r n) [] rfl, placed_length]
  simp only [List.length_nil]
  omega

/-! ### Sums over places -/
def sumN (f : Nat → Nat) : Nat → Nat
  | 0 => 0
  | n + 1 => sumN f n + f n
theorem sumN_add (f g : Nat → Nat) : ∀ n, sumN (fun i => f i + g i) n = sumN f n + sumN g n
  | 0 => rfl
  | n + 1 => by simp only [sumN]; rw [sumN_add f g n]; omega
theorem sumN_mul (k : Nat) (f : Nat → Nat) : ∀ n, sumN (fun i => k * f i) n = k * sumN f n
  | 0 => rfl
  | n + 1 => by simp only [sumN]; rw [sumN_mul k f n, Nat.mul_add]
theorem sumN_congr {f g : Nat → Nat} : ∀ {n}, (∀ i, i < n → f i = g i) → sumN f n = sumN g n
  | 0, _ => rfl
  | n + 1, h => by simp only [sumN]; rw [sumN_congr (fun i hi => h i (by omega)), h n (by omega)]
theorem sumN_count (p : Nat → Bool) : ∀ n, sumN (fun i => if p i = true then 1 else 0) n = (List.range n).countP p
  | 0 => rfl
  | n + 1 => by
    simp only [sumN]
    rw [List.range_succ, List.countP_append, sumN_count p n, List.countP_singleton]
/-- numbers below k + 1, of which c are not 0, have a sum of at most c * k -/
theorem sumN_bound {f : Nat → Nat} {k : Nat} : ∀ {n}, (∀ i, i < n → f i ≤ k) → sumN f n ≤ (List.range n).countP (fun i => decide (f i ≠ 0)) * k
  | 0, _ => by simp [sumN]
  | n + 1, h => by
    have h1 := sumN_bound (n := n) (fun i hi => h i (by omega))
    have h2 := h n (by omega)
    simp only [sumN]
    rw [List.range_succ, List.countP_append, List.countP_singleton, Nat.add_mul]
    by_cases h0 : f n = 0
    · rw [decide_eq_false (by omega), if_neg (by decide)]; omega
    · rw [decide_eq_true h0, if_pos rfl]; omega

/-! ### T divided by weights w 0 .. w (n - 1), whose sum is W -/
def quoP (T W : Nat) (w : Nat → Nat) (i : Nat) : Nat := T * w i / W
def remP (T W : Nat) (w : Nat → Nat) (i : Nat) : Nat := T * w i % W
def missP (T W : Nat) (w : Nat → Nat) (n : Nat) : Nat := T - sumN (quoP T W w) n
def partP (T W : Nat) (w : Nat → Nat) (n i : Nat) : Nat := quoP T W w i + if rk (remP T W w) n i < missP T W w n then 1 else 0
theorem rem_sum {T W n : Nat} {w : Nat → Nat} (hW : sumN w n = W) : W * sumN (quoP T W w) n + sumN (remP T W w) n = T * W := by
  rw [← sumN_mul, ← sumN_add, ← hW, ← sumN_mul]
  refine sumN_congr fun i _ => ?_
  unfold quoP remP
  exact Nat.div_add_mod _ _
theorem quo_le {T W n : Nat} {w : Nat → Nat} (hW : sumN w n = W) (h0 : 0 < W) : sumN (quoP T W w) n ≤ T := by
  have h := rem_sum (T := T) hW
  have h1 : W * sumN (quoP T W w) n ≤ W * T := by rw [Nat.mul_comm W T]; omega
  exact Nat.le_of_mul_le_mul_left h1 h0
theorem miss_eq {T W n : Nat} {w : Nat → Nat} (hW : sumN w n = W) : W * missP T W w n = sumN (remP T W w) n := by
  have h := rem_sum (T := T) hW
  unfold missP
  rw [Nat.mul_sub, Nat.mul_comm W T]
  omega
/-- what is missing is at most the number of remainders that are not 0 -/
theorem miss_le {T W n : Nat} {w : Nat → Nat} (hW : sumN w n = W) (h0 : 0 < W) : missP T W w n ≤ (List.range n).countP (fun i => decide (remP T W w i ≠ 0)) := by
  have h1 := miss_eq (T := T) hW
  have h2 := sumN_bound (f := remP T W w) (k := W) (n := n) (fun i _ => Nat.le_of_lt (Nat.mod_lt _ h0))
  rw [← h1, Nat.mul_comm] at h2
  exact Nat.le_of_mul_le_mul_right h2 h0
theorem miss_le_n {T W n : Nat} {w : Nat → Nat} (hW : sumN w n = W) (h0 : 0 < W) : missP T W w n ≤ n := by
  have h := miss_le (T := T) hW h0
  have h2 := List.countP_le_length (p := fun i => decide (remP T W w i ≠ 0)) (l := List.range n)
  rw [List.length_range] at h2
  omega
/-- the parts add up -/
theorem part_sum {T W n : Nat} {w : Nat → Nat} (hW : sumN w n = W) (h0 : 0 < W) : sumN (partP T W w n) n = T := by
  have h1 : sumN (partP T W w n) n = sumN (quoP T W w) n + sumN (fun i => if rk (remP T W w) n i < missP T W w n then 1 else 0) n := sumN_add _ _ n
  have h2 := sumN_count (fun i => decide (rk (remP T W w) n i < missP T W w n)) n
  simp only [decide_eq_true_eq] at h2
  rw [h1, h2, rk_count (miss_le_n hW h0)]
  have := quo_le (T := T) hW h0
  unfold missP
  omega
/-- a weight of 0 has the part 0 -/
theorem part_zero {T W n i : Nat} {w : Nat → Nat} (hW : sumN w n = W) (h0 : 0 < W) (h : w i = 0) : partP T W w n i = 0 := by
  have hr : remP T W w i = 0 := by unfold remP; rw [h]; simp
  have hq : quoP T W w i = 0 := by unfold quoP; rw [h]; simp
  have h1 : missP T W w n ≤ rk (remP T W w) n i := by
    refine Nat.le_trans (miss_le hW h0) ?_
    unfold rk
    refine List.countP_mono_left fun j _ hj => ?_
    rw [ahd_iff]
    have : remP T W w j ≠ 0 := of_decide_eq_true hj
    omega
  unfold partP
  rw [hq, if_neg (by omega)]
/-- a part differs from the ideal part by less than 1 -/
theorem part_near {T W n i : Nat} {w : Nat → Nat} (hW : sumN w n = W) (h0 : 0 < W) : W * partP T W w n i < T * w i + W ∧ T * w i < W * partP T W w n i + W := by
  have h1 := Nat.div_add_mod (T * w i) W
  have h2 := Nat.mod_lt (T * w i) h0
  unfold partP quoP
  by_cases h : rk (remP T W w) n i < missP T W w n
  · rw [if_pos h, Nat.mul_add, Nat.mul_one]
    have h3 : remP T W w i ≠ 0 := by
      intro e
      have h4 : missP T W w n ≤ rk (remP T W w) n i := by
        refine Nat.le_trans (miss_le hW h0) ?_
        unfold rk
        refine List.countP_mono_left fun j _ hj => ?_
        rw [ahd_iff]
        have : remP T W w j ≠ 0 := of_decide_eq_true hj
        omega
      omega
    unfold remP at h3
    omega
  · rw [if_neg h, Nat.add_zero]
    omega
/-- the greater weight has no smaller part; of equal ones the first has not, and at most 1 more -/
theorem part_order {T W n i k : Nat} {w : Nat → Nat} (hi : i < n) (hk : k < n) (h : w k < w i) : partP T W w n k ≤ partP T W w n i := by
  have h1 : T * w k ≤ T * w i := Nat.mul_le_mul_left T (Nat.le_of_lt h)
  have hq : quoP T W w k ≤ quoP T W w i := Nat.div_le_div_right h1
  unfold partP
  by_cases e : quoP T W w k = quoP T W w i
  · rw [e]
    have d1 := Nat.div_add_mod (T * w i) W
    have d2 := Nat.div_add_mod (T * w k) W
    have e2 : T * w k / W = T * w i / W := e
    rw [e2] at d2
    by_cases hT : T = 0
    · subst hT
      have z : ∀ j, remP 0 W w j = 0 := fun j => by unfold remP; simp
      have m : missP 0 W w n = 0 := by unfold missP; omega
      rw [m, if_neg (by omega), if_neg (by omega)]
      exact Nat.le_refl _
    · have h2 : T * w k < T * w i := (Nat.mul_lt_mul_left (by omega)).2 h
      have ha : ahd (remP T W w) i k = true := by rw [ahd_iff]; unfold remP; omega
      have := (rk_lt_iff hi hk).2 ha
      split
      · rw [if_pos (by omega)]; exact Nat.le_refl _
      · omega
  · split <;> split <;> omega
theorem part_same {T W n i k : Nat} {w : Nat → Nat} (hk : k < n) (h : w i = w k) (hik : i < k) : partP T W w n k ≤ partP T W w n i ∧ partP T W w n i ≤ partP T W w n k + 1 := by
  have hq : quoP T W w k = quoP T W w i := by unfold quoP; rw [h]
  have hr : remP T W w k = remP T W w i := by unfold remP; rw [h]
  have ha : ahd (remP T W w) i k = true := by rw [ahd_iff]; exact Or.inr ⟨hr.symm, hik⟩
  have := (rk_lt_iff (n := n) (by omega) hk).2 ha
  unfold partP
  rw [hq]
  constructor
  · split
    · rw [if_pos (by omega)]; exact Nat.le_refl _
    · omega
  · split <;> split <;> omega
/-- weights multiplied by a positive number: the same parts -/
theorem part_scale {T W n i c : Nat} {w : Nat → Nat} (hc : 0 < c) : partP T (c * W) (fun j => c * w j) n i = partP T W w n i := by
  have hq : quoP T (c * W) (fun j => c * w j) = quoP T W w := by
    funext j
    unfold quoP
    rw [Nat.mul_left_comm, Nat.mul_div_mul_left _ _ hc]
  have hr : ∀ j, remP T (c * W) (fun j => c * w j) j = c * remP T W w j := fun j => by
    unfold remP
    rw [Nat.mul_left_comm, Nat.mul_mod_mul_left]
  have ha : ∀ a b, ahd (remP T (c * W) (fun j => c * w j)) a b = ahd (remP T W w) a b := fun a b => by
    unfold ahd
    rw [hr, hr]
    refine decide_eq_decide.2 ?_
    have h1 : c * remP T W w b < c * remP T W w a ↔ remP T W w b < remP T W w a := Nat.mul_lt_mul_left hc
    have h2 : c * remP T W w a = c * remP T W w b ↔ remP T W w a = remP T W w b := ⟨fun h => Nat.eq_of_mul_eq_mul_left hc h, fun h => by rw [h]⟩
    rw [h1, h2]
  have hk : rk (remP T (c * W) (fun j => c * w j)) n i = rk (remP T W w) n i := by
    unfold rk
    exact congrArg (fun p => List.countP p (List.range n)) (funext fun j => ha j i)
  unfold partP missP
  rw [hq, hk]

end Go.Proofs.YthhihdihkddakaaGreatDoor.Num

/- Plain mathematics of layer 4: the best one again and again, units moved, parts with a sign, beginnings. -/
namespace Go.Proofs.YthhihdihkddakaaGreatDoor.Num

theorem rk_some {r : Nat → Nat} {n k : Nat} (hk : k < n) : ∃ i, i < n ∧ rk r n i = k := by
  have h : k < (placed r n).length := by rw [placed_length]; exact hk
  have hm : (placed r n)[k] < n := List.mem_range.1 ((placed_perm r n).mem_iff.1 (List.getElem_mem h))
  have e : placed r n = (placed r n).take k ++ (placed r n)[k] :: (placed r n).drop (k + 1) := by rw [← List.drop_eq_getElem_cons h, List.take_append_drop]
  refine ⟨(placed r n)[k], hm, ?_⟩
  rw [rk_part e, List.length_take]
  omega
/-- what is left of a remainder when k units have been given away: the unit that it got is taken off -/
def restP (r : Nat → Nat) (W n k i : Nat) : Int := (r i : Int) - if rk r n i < k then (W : Int) else 0
/-- the first of the greatest rests is the next in the order -/
theorem best_is {r : Nat → Nat} {W n k b : Nat} (hk : k < n) (hr : ∀ i, i < n → r i < W) (hb : b < n)
    (hm : ∀ j, j < n → restP r W n k j ≤ restP r W n k b) (hf : ∀ j, j < n → restP r W n k j = restP r W n k b → b ≤ j) : rk r n b = k := by
  obtain ⟨p, hp, hpk⟩ := rk_some (r := r) hk
  have h1 := hm p hp
  have h2 := hf p hp
  have h3 := hr b hb
  have hnb : ¬ rk r n b < k := by
    intro h
    unfold restP at h1
    rw [if_neg (by omega), if_pos h] at h1
    omega
  unfold restP at h1 h2
  rw [if_neg (by omega), if_neg hnb] at h1 h2
  rcases Nat.lt_or_ge k (rk r n b) with h | h
  · have ha := ahd_of_rk (r := r) hp hb (by omega)
    rw [ahd_iff] at ha
    rcases ha with ha | ⟨e, ha⟩
    · omega
    · have := h2 (by omega); omega
  · omega

/-- by how much W * part is more than W * (the ideal part) -/
def overP (T W : Nat) (w : Nat → Nat) (n i : Nat) : Int := (W * partP T W w n i : Nat) - (T * w i : Nat)
theorem over_eq {T W n i : Nat} {w : Nat → Nat} : overP T W w n i = (if rk (remP T W w) n i < missP T W w n then (W : Int) else 0) - (remP T W w i : Nat) := by
  have h := Nat.div_add_mod (T * w i) W
  have hq : W * (T * w i / W) = W * quoP T W w i := rfl
  have hr : T * w i % W = remP T W w i := rfl
  unfold overP partP
  rw [hq, hr] at h
  split
  · rw [Nat.mul_add, Nat.mul_one]; omega
  · rw [Nat.add_zero]; omega
/-- moving a unit from a part to another one is never better -/
theorem part_nearest {T W n i j : Nat} {w : Nat → Nat} (h0 : 0 < W) (hi : i < n) (hj : j < n) : overP T W w n i - overP T W w n j ≤ W := by
  rw [over_eq, over_eq]
  have h1 : remP T W w i < W := Nat.mod_lt _ h0
  have h2 : remP T W w j < W := Nat.mod_lt _ h0
  by_cases a : rk (remP T W w) n i < missP T W w n
  · by_cases b : rk (remP T W w) n j < missP T W w n
    · rw [if_pos a, if_pos b]; omega
    · have h3 := ahd_of_rk (r := remP T W w) hi hj (by omega)
      rw [ahd_iff] at h3
      rw [if_pos a, if_neg b]; omega
  · by_cases b : rk (remP T W w) n j < missP T W w n
    · rw [if_neg a, if_pos b]; omega
    · rw [if_neg a, if_neg b]; omega

/-! ### With a sign -/
def sumZ (f : Nat → Int) : Nat → Int
  | 0 => 0
  | n + 1 => sumZ f n + f n
theorem sumZ_nat (f : Nat → Nat) : ∀ n, sumZ (fun i => (f i : Int)) n = (sumN f n : Nat)
  | 0 => rfl
  | n + 1 => by simp only [sumZ, sumN]; rw [sumZ_nat f n]; omega
theorem sumZ_neg (f : Nat → Int) : ∀ n, sumZ (fun i => -f i) n = -sumZ f n
  | 0 => rfl
  | n + 1 => by simp only [sumZ]; rw [sumZ_neg f n]; omega
/-- the division of T by weights -/
def splitP (T : Int) (W : Nat) (w : Nat → Nat) (n i : Nat) : Int := if T < 0 then -(partP T.natAbs W w n i : Int) else partP T.natAbs W w n i
theorem split_sum {T : Int} {W n : Nat} {w : Nat → Nat} (hW : sumN w n = W) (h0 : 0 < W) : sumZ (splitP T W w n) n = T := by
  have h := part_sum (T := T.natAbs) hW h0
  by_cases hT : T < 0
  · have e : splitP T W w n = fun i => -(partP T.natAbs W w n i : Int) := funext fun i => by unfold splitP; rw [if_pos hT]
    rw [e, sumZ_neg, sumZ_nat, h]; omega
  · have e : splitP T W w n = fun i => (partP T.natAbs W w n i : Int) := funext fun i => by unfold splitP; rw [if_neg hT]
    rw [e, sumZ_nat, h]; omega
theorem split_zero {T : Int} {W n i : Nat} {w : Nat → Nat} (hW : sumN w n = W) (h0 : 0 < W) (h : w i = 0) : splitP T W w n i = 0 := by
  unfold splitP
  rw [part_zero hW h0 h]
  split <;> rfl
theorem split_abs {T : Int} {W n i : Nat} {w : Nat → Nat} : (splitP T W w n i).natAbs = partP T.natAbs W w n i := by
  unfold splitP
  split <;> omega
theorem split_neg {T : Int} {W n i : Nat} {w : Nat → Nat} (hW : sumN w n = W) (h0 : 0 < W) : splitP (-T) W w n i = -splitP T W w n i := by
  unfold splitP
  rw [Int.natAbs_neg]
  by_cases hT : T = 0
  · subst hT
    have h1 : partP 0 W w n i = 0 := by
      have h2 := part_near (T := 0) (i := i) hW h0
      have h3 : W * partP 0 W w n i < W * 1 := by omega
      have := Nat.lt_of_mul_lt_mul_left h3
      omega
    show (if -(0 : Int) < 0 then _ else _) = _
    rw [if_neg (by decide), if_neg (by decide), show (0 : Int).natAbs = 0 from rfl, h1]
    rfl
  · by_cases h : T < 0
    · rw [if_neg (by omega), if_pos h]; omega
    · rw [if_pos (by omega), if_neg h]
theorem split_scale {T : Int} {W n i c : Nat} {w : Nat → Nat} (hc : 0 < c) : splitP T (c * W) (fun j => c * w j) n i = splitP T W w n i := by
  unfold splitP
  rw [part_scale hc]
/-- a part differs from the ideal part by less than 1 -/
theorem split_near {T : Int} {W n i : Nat} {w : Nat → Nat} (hW : sumN w n = W) (h0 : 0 < W) : (W : Int) * splitP T W w n i < T * w i + W ∧ T * w i < (W : Int) * splitP T W w n i + W := by
  have h := part_near (T := T.natAbs) (i := i) hW h0
  have e1 : ((W * partP T.natAbs W w n i : Nat) : Int) = (W : Int) * (partP T.natAbs W w n i : Int) := Int.natCast_mul _ _
  have e2 : ((T.natAbs * w i : Nat) : Int) = (T.natAbs : Int) * (w i : Int) := Int.natCast_mul _ _
  unfold splitP
  by_cases hT : T < 0
  · have e3 : T = -(T.natAbs : Int) := by omega
    have e4 : T * (w i : Int) = -((T.natAbs : Int) * (w i : Int)) := by rw [← Int.neg_mul, ← e3]
    rw [if_pos hT, e4, Int.mul_neg]
    omega
  · have e3 : T = (T.natAbs : Int) := by omega
    have e4 : T * (w i : Int) = (T.natAbs : Int) * (w i : Int) := by rw [← e3]
    rw [if_neg hT, e4]
    omega

/-! ### Each beginning has its part -/
def runP (T : Int) (W : Nat) (w : Nat → Nat) (i : Nat) : Int := Int.fdiv (T * (sumN w (i + 1) : Nat)) W - Int.fdiv (T * (sumN w i : Nat)) W
theorem run_begin (T : Int) (W : Nat) (w : Nat → Nat) : ∀ k, sumZ (runP T W w) k = Int.fdiv (T * (sumN w k : Nat)) W
  | 0 => by simp [sumZ, sumN]
  | k + 1 => by simp only [sumZ]; rw [run_begin T W w k]; unfold runP; omega
theorem run_sum {T : Int} {W n : Nat} {w : Nat → Nat} (hW : sumN w n = W) (h0 : 0 < W) : sumZ (runP T W w) n = T := by
  rw [run_begin, hW]
  exact Int.mul_fdiv_cancel T (by omega)
theorem run_zero {T : Int} {W i : Nat} {w : Nat → Nat} (h : w i = 0) : runP T W w i = 0 := by
  unfold runP
  rw [show sumN w (i + 1) = sumN w i by simp [sumN, h]]
  omega
theorem fdiv_near (a : Int) {W : Nat} (h0 : 0 < W) : (W : Int) * Int.fdiv a W ≤ a ∧ a < (W : Int) * Int.fdiv a W + W := by
  have h1 := Int.mul_fdiv_add_fmod a W
  have h2 := Int.fmod_nonneg_of_pos a (b := (W : Int)) (by omega)
  have h3 := Int.fmod_lt_of_pos a (b := (W : Int)) (by omega)
  omega
theorem run_near {T : Int} {W i : Nat} {w : Nat → Nat} (h0 : 0 < W) : (W : Int) * runP T W w i < T * w i + W ∧ T * w i < (W : Int) * runP T W w i + W := by
  have h1 := fdiv_near (T * (sumN w (i + 1) : Nat)) h0
  have h2 := fdiv_near (T * (sumN w i : Nat)) h0
  have e : T * ((sumN w (i + 1) : Nat) : Int) = T * ((sumN w i : Nat) : Int) + T * (w i : Int) := by
    rw [← Int.mul_add]
    rfl
  unfold runP
  rw [Int.mul_sub]
  omega

end Go.Proofs.YthhihdihkddakaaGreatDoor.Num

/- Plain mathematics of layer 4: insertion of places that ascend; what is sorted is in the order of the places. -/
namespace Go.Proofs.YthhihdihkddakaaGreatDoor.Num

theorem length_le_of_sub : ∀ {l m : List Nat}, l.Nodup → (∀ x ∈ l, x ∈ m) → l.length ≤ m.length
  | [], _, _, _ => by simp
  | a :: l, m, hn, hs => by
    have h1 := List.nodup_cons.1 hn
    have ha : a ∈ m := hs a (List.mem_cons_self ..)
    have h2 := length_le_of_sub (l := l) (m := m.erase a) h1.2 (fun x hx => (List.mem_erase_of_ne (by intro e; subst e; exact h1.1 hx)).2 (hs x (List.mem_cons_of_mem _ hx)))
    rw [List.length_erase_of_mem ha] at h2
    have := List.length_pos_of_mem ha
    rw [List.length_cons]
    omega
theorem mem_of_full {l : List Nat} {n : Nat} (hn : l.Nodup) (hs : ∀ x ∈ l, x < n) (hl : l.length = n) {i : Nat} (hi : i < n) : i ∈ l := by
  by_cases h : i ∈ l
  · exact h
  · have := length_le_of_sub (l := i :: l) (m := List.range n) (List.nodup_cons.2 ⟨h, hn⟩) (fun x hx => by
      rcases List.mem_cons.1 hx with rfl | hx
      · exact List.mem_range.2 hi
      · exact List.mem_range.2 (hs x hx))
    rw [List.length_cons, List.length_range] at this
    omega

/-- d has n places in order, each below n -/
structure Sorted (r : Nat → Nat) (n : Nat) (d : Nat → Nat) : Prop where
  lt : ∀ p, p < n → d p < n
  ord : ∀ p q, p < q → q < n → ahd r (d p) (d q) = true
theorem Sorted.inj {r : Nat → Nat} {n : Nat} {d : Nat → Nat} (h : Sorted r n d) {p q : Nat} (hp : p < n) (hq : q < n) (e : d p = d q) : p = q := by
  rcases Nat.lt_trichotomy p q with k | k | k
  · have := h.ord p q k hq; rw [e] at this; exact absurd this (ahd_irrefl r _)
  · exact k
  · have := h.ord q p k hp; rw [e] at this; exact absurd this (ahd_irrefl r _)
theorem Sorted.all {r : Nat → Nat} {n : Nat} {d : Nat → Nat} (h : Sorted r n d) {i : Nat} (hi : i < n) : ∃ p, p < n ∧ d p = i := by
  have h1 : ((List.range n).map d).Nodup := by
    unfold List.Nodup
    rw [List.pairwise_map]
    refine List.Pairwise.imp_of_mem (R := fun a b => a < b) (fun {a b} ha hb hab => ?_) List.pairwise_lt_range
    intro e
    have := h.inj (List.mem_range.1 ha) (List.mem_range.1 hb) e
    omega
  have h2 := mem_of_full (i := i) h1 (fun x hx => by obtain ⟨p, hp, rfl⟩ := List.mem_map.1 hx; exact h.lt p (List.mem_range.1 hp)) (by simp) hi
  obtain ⟨p, hp, e⟩ := List.mem_map.1 h2
  exact ⟨p, List.mem_range.1 hp, e⟩
/-- the place at p has p places ahead of it -/
theorem Sorted.rk {r : Nat → Nat} {n : Nat} {d : Nat → Nat} (h : Sorted r n d) : ∀ p, p < n → Num.rk r n (d p) = p := by
  intro p
  induction p using Nat.strongRecOn with
  | _ p ih =>
    intro hp
    have hk := rk_lt (r := r) (h.lt p hp)
    rcases Nat.lt_trichotomy (Num.rk r n (d p)) p with k | k | k
    · have e := ih _ k (by omega)
      have := rk_inj (h.lt _ (by omega)) (h.lt p hp) e
      have := h.inj (by omega) hp this
      omega
    · exact k
    · obtain ⟨j, hj, hjk⟩ := rk_some (r := r) hp
      obtain ⟨q, hq, rfl⟩ := h.all hj
      rcases Nat.lt_trichotomy q p with a | a | a
      · have := ih q a hq; omega
      · subst a; omega
      · have h1 := (rk_lt_iff (h.lt p hp) (h.lt q hq)).2 (h.ord p q a hq)
        omega
theorem Sorted.first {r : Nat → Nat} {n m i : Nat} {d : Nat → Nat} (h : Sorted r n d) (hm : m ≤ n) (hi : i < n) : (∃ p, p < m ∧ d p = i) ↔ Num.rk r n i < m := by
  constructor
  · rintro ⟨p, hp, rfl⟩
    rw [h.rk p (by omega)]; exact hp
  · intro hr
    obtain ⟨p, hp, rfl⟩ := h.all hi
    rw [h.rk p hp] at hr
    exact ⟨p, hr, rfl⟩

/-- the first i places are in order, the others lie as they lay -/
structure Outer (r : Nat → Nat) (n i : Nat) (d : Nat → Nat) : Prop where
  lt : ∀ p, p < i → d p < i
  ord : ∀ p q, p < q → q < i → ahd r (d p) (d q) = true
  rest : ∀ p, i ≤ p → p < n → d p = p
/-- i is at j; all others of the first i + 1 are in order, i stands ahead of those behind j -/
structure Inner (r : Nat → Nat) (n i j : Nat) (d : Nat → Nat) : Prop where
  le : j ≤ i
  at_ : d j = i
  lt : ∀ p, p ≤ i → p ≠ j → d p < i
  ord : ∀ p q, p < q → q ≤ i → p ≠ j → q ≠ j → ahd r (d p) (d q) = true
  behind : ∀ q, j < q → q ≤ i → ahd r i (d q) = true
  rest : ∀ p, i < p → p < n → d p = p
theorem Outer.start (r : Nat → Nat) (n : Nat) : Outer r n 1 fun p => p := ⟨fun p h => h, fun p q h k => by omega, fun _ _ _ => rfl⟩
theorem Outer.none (r : Nat → Nat) (n : Nat) : Outer r n 0 fun p => p := ⟨fun p h => h, fun p q h k => by omega, fun _ _ _ => rfl⟩
theorem Outer.inner {r : Nat → Nat} {n i : Nat} {d : Nat → Nat} (h : Outer r n i d) (hi : i < n) : Inner r n i i d :=
  ⟨Nat.le_refl _, h.rest i (Nat.le_refl _) hi, fun p hp hne => h.lt p (by omega), fun p q hpq hq hp hq' => h.ord p q hpq (by omega), fun q hq hq' => by omega, fun p hp hn => h.rest p (by omega) hn⟩
/-- whom the test lets by: the greater remainder -/
theorem Inner.test {r : Nat → Nat} {n i j : Nat} {d : Nat → Nat} (h : Inner r n i (j + 1) d) : r (d j) < r i ↔ ahd r i (d j) = true := by
  have := h.lt j (by have := h.le; omega) (by omega)
  rw [ahd_iff]
  omega
theorem Inner.swap {r : Nat → Nat} {n i j : Nat} {d : Nat → Nat} (h : Inner r n i (j + 1) d) (ht : r (d j) < r i) : Inner r n i j (fun p => if p = j then d (j + 1) else if p = j + 1 then d j else d p) := by
  have hle := h.le
  have ha := h.test.1 ht
  refine ⟨by omega, by rw [if_pos rfl]; exact h.at_, ?_, ?_, ?_, ?_⟩
  · intro p hp hne
    show (if p = j then _ else _) < i
    rw [if_neg hne]
    by_cases e : p = j + 1
    · rw [if_pos e]; exact h.lt j (by omega) (by omega)
    · rw [if_neg e]; exact h.lt p hp e
  · intro p q hpq hq hp hq'
    show ahd r (if p = j then _ else _) (if q = j then _ else _) = true
    rw [if_neg hp, if_neg hq']
    by_cases e : p = j + 1
    · rw [if_pos e, if_neg (by omega)]
      exact h.ord j q (by omega) hq (by omega) (by omega)
    · rw [if_neg e]
      by_cases f : q = j + 1
      · rw [if_pos f]; exact h.ord p j (by omega) (by omega) e (by omega)
      · rw [if_neg f]; exact h.ord p q hpq hq e f
  · intro q hq hqi
    show ahd r i (if q = j then _ else _) = true
    rw [if_neg (by omega)]
    by_cases e : q = j + 1
    · rw [if_pos e]; exact ha
    · rw [if_neg e]; exact h.behind q (by omega) hqi
  · intro p hp hn
    show (if p = j then _ else _) = p
    rw [if_neg (by omega), if_neg (by omega)]; exact h.rest p hp hn
theorem Inner.done {r : Nat → Nat} {n i j : Nat} {d : Nat → Nat} (h : Inner r n i j d) (ht : ∀ k, k + 1 = j → ¬ r (d k) < r i) : Outer r n (i + 1) d := by
  have hle := h.le
  have hat := h.at_
  have ahead : ∀ p, p < j → ahd r (d p) i = true := by
    intro p hp
    obtain ⟨k, rfl⟩ : ∃ k, j = k + 1 := ⟨j - 1, by omega⟩
    have h1 := ht k rfl
    have h2 := h.lt k (by omega) (by omega)
    have h3 : ahd r (d k) i = true := by rw [ahd_iff]; omega
    rcases Nat.lt_or_ge p k with a | a
    · exact ahd_trans (h.ord p k a (by omega) (by omega) (by omega)) h3
    · obtain rfl : p = k := by omega
      exact h3
  refine ⟨fun p hp => ?_, fun p q hpq hq => ?_, fun p hp hn => h.rest p (by omega) hn⟩
  · by_cases e : p = j
    · subst e; omega
    · have := h.lt p (by omega) e; omega
  · by_cases e : p = j
    · subst e; rw [hat]; exact h.behind q hpq (by omega)
    · by_cases f : q = j
      · subst f; rw [hat]; exact ahead p hpq
      · exact h.ord p q hpq (by omega) e f
theorem Outer.sorted {r : Nat → Nat} {n i : Nat} {d : Nat → Nat} (h : Outer r n i d) (hi : n ≤ i) (hin : i ≤ n) : Sorted r n d := by
  obtain rfl : i = n := by omega
  exact ⟨h.lt, h.ord⟩

end Go.Proofs.YthhihdihkddakaaGreatDoor.Num
