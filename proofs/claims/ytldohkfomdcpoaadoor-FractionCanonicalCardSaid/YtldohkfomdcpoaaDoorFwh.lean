/- The program's layer 2: text, Print, Power: the walks. -/
import Derived.Test.YtldohkfomdcpoaaDoorFwg
import Derived.Deep.Cut
namespace Go.Proofs.YtldohkfomdcpoaaDoor
open Go.RowKit Fra

/-- the text of a pair in lowest terms -/
def textP (p : Int × Int) : ByteArray := if p.2 = 1 then pS p.1 else pS p.1 ++ ⟨#[47]⟩ ++ pS p.2
theorem pS_size {k : Nat} {z : Int} (h : Cap k z) : (pS z).size ≤ k + 2 := by
  by_cases h0 : z = 0
  · rw [h0, pS_zero]; show 1 ≤ k + 2; omega
  · rw [pS_of_ne h0]; have := cS_size h; omega

set_option maxRecDepth 100000 in
set_option maxHeartbeats 2000000 in
theorem fText_any (p : Int × Int) (w : World) (hp : CapP 1000000 p) :
    Calls Tryd.prog 49 #[.agg #[.string (cS p.1), .string (cS p.2)]] w fun r w' => r = .returned (.string (textP p)) ∧ Below w.heap.size w w' := by
  have s1 := cS_size hp.1
  have s2 := cS_size hp.2
  have t1 := pS_size hp.1
  have t2 := pS_size hp.2
  obtain ⟨n, hn⟩ : ∃ n, n = cS p.1 := ⟨_, rfl⟩
  by_cases h0 : p.2 = 1
  · have HD := Lib.hid (show textP p = pS p.1 by unfold textP; rw [if_pos h0])
    rw [show cS p.2 = ⟨#[49]⟩ by rw [h0, cS_one], ← hn]
    rw [← hn] at s1
    have HN := Lib.hid (show vS n = p.1 by rw [hn, vS_cS])
    clear h0 hn s2 hp
    go_enter Tryd.func49, Tryd.ntmps49
    go_wp2_with fail
    refine (print_any n _ (by omega)).mono ?_
    rintro _ _ ⟨rfl, rfl⟩
    rw [HN.out]
    go_wp2_with fail
    go_ret
    exact ⟨by rw [HD.out]; rfl, (Below.refl _ _).alloc (Nat.le_refl _) _⟩
  · have HD := Lib.hid (show textP p = pS p.1 ++ ⟨#[47]⟩ ++ pS p.2 by unfold textP; rw [if_neg h0])
    have h1 : ((cS p.2).toList == [49]) = false := by rw [eq_one]; exact decide_eq_false h0
    obtain ⟨m, hm⟩ : ∃ m, m = cS p.2 := ⟨_, rfl⟩
    rw [← hm] at h1 s2
    rw [← hn] at s1
    rw [← hn, ← hm]
    have HN := Lib.hid (show vS n = p.1 by rw [hn, vS_cS])
    have HM := Lib.hid (show vS m = p.2 by rw [hm, vS_cS])
    obtain ⟨u, hu⟩ : ∃ u, u = pS p.1 := ⟨_, rfl⟩
    obtain ⟨v, hv⟩ : ∃ v, v = pS p.2 := ⟨_, rfl⟩
    rw [← hu] at t1
    rw [← hv] at t2
    have HU := Lib.hid hu
    have HV := Lib.hid hv
    clear h0 hn hm hp hu hv
    obtain ⟨W0, hW0⟩ : ∃ W0, W0 = w.alloc (.cells #[.string n, .string m] 54) := ⟨_, rfl⟩
    have hB0 : Below w.heap.size w W0 := by rw [hW0]; exact (Below.refl _ _).alloc (Nat.le_refl _) _
    have hP : PairAt W0 w.heap.size 54 n m := by rw [hW0]; exact PairAt.made _ _ _ _
    go_enter Tryd.func49, Tryd.ntmps49
    go_wp2_with fail
    rw [← hW0]
    clear hW0
    obtain ⟨c0, c1, _, _⟩ := hP.cells
    have b1 : ¬ 9223372036854775807 < u.size + 1 := by omega
    have b2 : ¬ 9223372036854775807 < u.size + 1 + v.size := by omega
    go_region_held3 (fun w' => w'.cell? ⟨w.heap.size, 0, none⟩ = some (.string n) ∧ w'.cell? ⟨w.heap.size, 1, none⟩ = some (.string m))
      (go_keep)
      ((go_at_call 70;
        (first
          | ((with_reducible refine Calls.mono (print_any n _ (by omega)) ?_); (rintro _ _ ⟨rfl, rfl⟩); (rw [HN.out, ← HU.out]))
          | ((with_reducible refine Calls.mono (print_any m _ (by omega)) ?_); (rintro _ _ ⟨rfl, rfl⟩); (rw [HM.out, ← HV.out])))))
    all_goals go_wp2_with fail
    all_goals go_ret
    all_goals exact ⟨by rw [HD.out, ← HU.out, ← HV.out]; rfl, below_drewN hB0 1⟩

set_option maxRecDepth 100000 in
set_option maxHeartbeats 2000000 in
theorem fPrint_any (n d : ByteArray) (w : World) (hG : Ground w) (ha : n.size ≤ 100000) (hb : d.size ≤ 100000) :
    Calls Tryd.prog 29 #[.agg #[.string n, .string d]] w fun r w' => r = .returned (.string (textP (low (raw n d)))) ∧ Below w.heap.size w w' := by
  have HP := Lib.hid (raw_pos n d)
  have HC := Lib.hid (CapP.low (CapP.of_raw (k := 100000) (by decide) ha hb) (raw_pos n d))
  obtain ⟨W0, hW0⟩ : ∃ W0, W0 = w.alloc (.cells #[.string n, .string d] 24) := ⟨_, rfl⟩
  have hB0 : Below w.heap.size w W0 := by rw [hW0]; exact (Below.refl _ _).alloc (Nat.le_refl _) _
  go_enter Tryd.func29, Tryd.ntmps29
  go_wp2_with fail
  rw [← hW0]
  clear hW0
  refine (fValue_any n d W0 100001 (by omega) (by omega) (by decide)).mono ?_
  rintro _ w1 ⟨p, q, rfl, e1, e2, e3, e4, hB1⟩
  have hB := hB0.trans (hB1.mono hB0.size)
  have HE1 := Lib.hid e1
  have HE2 := Lib.hid e2
  clear hB1 hB0 e1 e2
  go_wp2_with fail
  refine (fLowest_v w1 (hG.below hB) (by omega) (by omega) HE1.out HE2.out HP.out).mono ?_
  rintro _ w2 ⟨rfl, hB2⟩
  have hB' := hB.trans (hB2.mono hB.size)
  clear hB hB2
  go_wp2_with fail
  refine (fText_any (low (raw n d)) w2 (CapP.mono HC.out (by decide))).mono ?_
  rintro _ w3 ⟨rfl, hB3⟩
  have hB := hB'.trans (hB3.mono hB'.size)
  clear hB' hB3
  go_wp2_with fail
  go_ret
  exact ⟨rfl, hB⟩

/-! ### Powers -/
theorem pow_gcd {a b : Int} (h : Int.gcd a b = 1) (n : Nat) : Int.gcd (a ^ n) (b ^ n) = 1 := by
  unfold Int.gcd at *
  rw [Int.natAbs_pow, Int.natAbs_pow]
  exact Nat.Coprime.pow n n h
theorem Low.pow {p : Int × Int} (h : Low p) (n : Nat) : Low (p.1 ^ n, p.2 ^ n) := ⟨Int.pow_pos h.1, pow_gcd h.2 n⟩
/-- the value of a power: of the number p, in lowest terms -/
def powP (p : Int × Int) (e : Int) : Int × Int := redS (powU p.1 p.2 e).1 (powU p.1 p.2 e).2
theorem powP_nat {p : Int × Int} (h : Low p) (n : Nat) : powP p n = (p.1 ^ n, p.2 ^ n) := by
  unfold powP powU
  rw [if_pos (by omega)]
  show redS (p.1 ^ (n : Int).toNat) (p.2 ^ (n : Int).toNat) = _
  rw [Int.toNat_natCast, redS_red (Int.pow_pos h.1)]
  exact red_lowest (pow_gcd h.2 n)
theorem quoP_one {y : Int × Int} : quoP (1, 1) y = redS y.2 y.1 := by unfold quoP; rw [Int.one_mul, Int.one_mul]
theorem powP_neg {p y : Int × Int} (hy : 0 < y.2) (hs : Same p y) (h0 : p.1 ≠ 0) (n : Nat) : powP p (-(n : Int)) = ((quoP (1, 1) y).1 ^ n, (quoP (1, 1) y).2 ^ n) := by
  have hy0 : y.1 ≠ 0 := by
    intro e
    unfold Same at hs
    rw [e, Int.zero_mul] at hs
    rcases Int.mul_eq_zero.1 hs with h | h
    · exact h0 h
    · omega
  have hq : quoP (1, 1) y = redS p.2 p.1 := by
    rw [quoP_one]
    refine redS_eq hy0 h0 ?_
    unfold Same at hs
    rw [Int.mul_comm y.2, hs, Int.mul_comm]
  have hl : Low (quoP (1, 1) y) := by rw [quoP_one]; exact Low.of_redS hy0
  rw [← powP_nat hl n]
  unfold powP
  rw [hq]
  have hc := redS_cross (n := p.2) (d := p.1)
  have hpos := redS_pos (n := p.2) h0
  generalize redS p.2 p.1 = q at *
  by_cases hn : n = 0
  · subst hn; unfold powU; simp
  unfold powU
  rw [if_neg (by omega), if_pos (by omega)]
  simp only [Int.neg_neg, Int.toNat_natCast]
  refine redS_eq (pow_ne h0 n) (pow_ne (by omega) n) ?_
  rw [← Int.mul_pow, ← Int.mul_pow, ← hc]

theorem PairAt.set0 {W : World} {b : Nat} {t : TypeId} {x y : ByteArray} (h : PairAt W b t x y) (u : ByteArray) : PairAt (W.setCell ⟨b, 0, none⟩ (.string u)) b t u y := by
  have h1 := heap_setCell_same W b 0 _ _ (.string u) h
  unfold PairAt; rw [h1]; rfl
theorem PairAt.set1 {W : World} {b : Nat} {t : TypeId} {x y : ByteArray} (h : PairAt W b t x y) (u : ByteArray) : PairAt (W.setCell ⟨b, 1, none⟩ (.string u)) b t x u := by
  have h1 := heap_setCell_same W b 1 _ _ (.string u) h
  unfold PairAt; rw [h1]; rfl
theorem PairAt.setOther {W : World} {b : Nat} {t : TypeId} {x y : ByteArray} (h : PairAt W b t x y) {a : Addr} (hne : b ≠ a.block) (u : Value) : PairAt (W.setCell a u) b t x y := by
  unfold PairAt at *; rw [Below.heap_setCell W a u b hne]; exact h

theorem St1.setB {w W : World} {s t : TypeId} {a b : ByteArray} (h : St1 w W s t a b) (hG : Ground w) {B o : Nat} (hB : w.heap.size + 2 ≤ B) (v : Value) : St1 w (W.setCell ⟨B, o, none⟩ v) s t a b :=
  have hb := h.below.setCell (p := ⟨B, o, none⟩) (show w.heap.size ≤ B by omega) v
  ⟨hG.below hb, h.x.setOther (a := ⟨B, o, none⟩) (show w.heap.size ≠ B by omega) v, h.r.setOther (a := ⟨B, o, none⟩) (show w.heap.size + 1 ≠ B by omega) v, hb⟩

set_option maxRecDepth 100000 in
set_option maxHeartbeats 4000000 in
theorem fPower_pos (n d : ByteArray) (k : Nat) (w : World) (hG : Ground w) (ha : n.size ≤ 100000) (hb : d.size ≤ 100000) (hk : k ≤ 400) :
    Calls Tryd.prog 27 #[.agg #[.string n, .string d], .int .i64 k] w fun r w' => r = .returned (.tuple #[.agg #[.string (cS ((low (raw n d)).1 ^ k)), .string (cD ((low (raw n d)).2 ^ k))], .int .i64 0]) ∧ Below w.heap.size w w' := by
  have HP := Lib.hid (raw_pos n d)
  have hc := CapP.low (CapP.of_raw (k := 100000) (by decide) ha hb) (raw_pos n d)
  have HC1 := Lib.hid (show (cS (low (raw n d)).1).size ≤ 1000000 by have := cS_size hc.1; omega)
  have HC2 := Lib.hid (show (cS (low (raw n d)).2).size ≤ 1000000 by have := cS_size hc.2; omega)
  clear hc
  have hk0 : ¬ (k : Int) < 0 := by omega
  have hk1 : ¬ (k : Int) < -400 := by omega
  have hk2 : ¬ (400 : Int) < (k : Int) := by omega
  obtain ⟨W0, hW0⟩ : ∃ W0, W0 = (w.alloc (.cells #[.string n, .string d] 24)).alloc (.cells #[.string ⟨#[]⟩, .string ⟨#[]⟩] 24) := ⟨_, rfl⟩
  have hS : St1 w W0 24 24 n d := by rw [hW0]; exact St1.made hG _ _ _ _
  go_enter Tryd.func27, Tryd.ntmps27
  go_upto_region 1 with fail
  rw [← hW0]
  clear hW0
  obtain ⟨c0, c1, _, _⟩ := hS.x.cells
  go_wp2_with fail
  refine (fValue_any n d W0 100001 (by omega) (by omega) (by decide)).mono ?_
  rintro _ w1 ⟨p, q, rfl, e1, e2, e3, e4, hB1⟩
  have hS1 := hS.next hB1
  have HE1 := Lib.hid e1
  have HE2 := Lib.hid e2
  clear hB1 hS e1 e2 c0 c1
  go_wp2_with fail
  refine (fLowest_v w1 hS1.g (by omega) (by omega) HE1.out HE2.out HP.out).mono ?_
  rintro _ w2 ⟨rfl, hB2⟩
  have hS2 := hS1.next hB2
  clear hB2 hS1
  go_wp2_with fail
  obtain ⟨B, hB8⟩ : ∃ B, B = w2.heap.size := ⟨_, rfl⟩
  obtain ⟨W3, hW3⟩ : ∃ W3, W3 = w2.alloc (.cells #[.string (cS (red (raw n d).1 (raw n d).2).1), .string (cS (red (raw n d).1 (raw n d).2).2)] 54) := ⟨_, rfl⟩
  have hB3 : Below w2.heap.size w2 W3 := by rw [hW3]; exact (Below.refl _ _).alloc (Nat.le_refl _) _
  have hR3 : PairAt W3 B 54 (cS (low (raw n d)).1) (cS (low (raw n d)).2) := by rw [hW3, hB8]; exact PairAt.made _ _ _ _
  have hge : w.heap.size + 2 ≤ B := by rw [hB8]; have := hS2.r.lt; omega
  rw [← hB8, ← hW3]
  clear hW3 hB8
  have hS3 := hS2.next hB3
  clear hB3 hS2
  refine (show Calls _ _ _ W3 (PowPost W3 ((low (raw n d)).1 ^ k)) from by have := power_any (cS (low (raw n d)).1) k W3 hS3.g HC1.out hk; rwa [vS_cS] at this).mono ?_
  rintro _ w4 ⟨rfl, hB4⟩
  have hR4 := hR3.below hB4
  have hS4 := hS3.next hB4
  clear hB4 hS3 hR3
  obtain ⟨d0, d1, d2, d3⟩ := hR4.cells
  have h5 := hR4.set0 (cS ((low (raw n d)).1 ^ k))
  have hS5 := hS4.setB hG (o := 0) hge (.string (cS ((low (raw n d)).1 ^ k)))
  obtain ⟨e0, e1, e2, e3⟩ := h5.cells
  go_wp2_with fail
  obtain ⟨W5, hW5⟩ : ∃ W5, W5 = w4.setCell ⟨B, 0, none⟩ (.string (cS ((low (raw n d)).1 ^ k))) := ⟨_, rfl⟩
  rw [← hW5] at h5 hS5
  rw [← hW5]
  clear hW5 hS4 hR4 d0 d1 d2 d3 e0 e1 e2 e3
  refine (show Calls _ _ _ W5 (PowPost W5 ((low (raw n d)).2 ^ k)) from by have := power_any (cS (low (raw n d)).2) k W5 hS5.g HC2.out hk; rwa [vS_cS] at this).mono ?_
  rintro _ w6 ⟨rfl, hB6⟩
  have hR6 := h5.below hB6
  have hS6 := hS5.next hB6
  clear hB6 hS5 h5
  obtain ⟨d0, d1, d2, d3⟩ := hR6.cells
  have h7 := hR6.set1 (cS ((low (raw n d)).2 ^ k))
  have hS7 := hS6.setB hG (o := 1) hge (.string (cS ((low (raw n d)).2 ^ k)))
  obtain ⟨e0, e1, e2, e3⟩ := h7.cells
  go_wp2_with fail
  obtain ⟨W7, hW7⟩ : ∃ W7, W7 = w6.setCell ⟨B, 1, none⟩ (.string (cS ((low (raw n d)).2 ^ k))) := ⟨_, rfl⟩
  rw [← hW7] at h7 hS7
  rw [← hW7]
  clear hW7 hS6 hR6 d0 d1 d2 d3 e0 e1 e2 e3
  refine (fPack_any ((low (raw n d)).1 ^ k, (low (raw n d)).2 ^ k) W7).mono ?_
  rintro _ w8 ⟨rfl, hB8⟩
  have hS8 := hS7.next hB8
  clear hB8 hS7 h7
  obtain ⟨c4, c5, c6, c7⟩ := hS8.r.cells
  go_wp2_with fail
  obtain ⟨k0, k1, _, _⟩ := (hS8.r.put (cS ((low (raw n d)).1 ^ k)) (cD ((low (raw n d)).2 ^ k))).cells
  exact bodyPost_ret (v := .tuple #[.agg #[.string (cS ((low (raw n d)).1 ^ k)), .string (cD ((low (raw n d)).2 ^ k))], .int .i64 0]) (by simp [results, Tryd.results27, go_sem, k0, k1]) rfl ⟨rfl, below_put hS8.below (by omega) _ _⟩

set_option maxRecDepth 100000 in
set_option maxHeartbeats 2000000 in
theorem fPower_range (n d : ByteArray) (k : Int) (w : World) (hk : k < -400 ∨ 400 < k) :
    Calls Tryd.prog 27 #[.agg #[.string n, .string d], .int .i64 k] w fun r w' => r = .returned (.tuple #[.agg #[.string ⟨#[]⟩, .string ⟨#[]⟩], .int .i64 2]) ∧ Below w.heap.size w w' := by
  by_cases h : k < -400
  · clear hk
    go_enter Tryd.func27, Tryd.ntmps27
    go_wp2_with fail
    exact bodyPost_ret (v := .tuple #[.agg #[.string ⟨#[]⟩, .string ⟨#[]⟩], .int .i64 2]) (by simp [results, Tryd.results27, go_sem]) rfl ⟨rfl, below_two _ _ _⟩
  · have h2 : 400 < k := by omega
    clear hk
    go_enter Tryd.func27, Tryd.ntmps27
    go_wp2_with fail
    exact bodyPost_ret (v := .tuple #[.agg #[.string ⟨#[]⟩, .string ⟨#[]⟩], .int .i64 2]) (by simp [results, Tryd.results27, go_sem]) rfl ⟨rfl, below_two _ _ _⟩

end Go.Proofs.YtldohkfomdcpoaaDoor
