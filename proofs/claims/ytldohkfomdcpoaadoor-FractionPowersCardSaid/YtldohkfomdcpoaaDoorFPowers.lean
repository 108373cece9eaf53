/- the law FractionPowers: the walk. -/
import Derived.Test.YtldohkfomdcpoaaDoorFst
import Derived.Deep.DeepCutAuto
import Derived.Laws.NewBlocks
namespace Go.Proofs.YtldohkfomdcpoaaDoor
open Go.RowKit Fra

theorem tmod9 (m : Int) : -8 ≤ m.tmod 9 ∧ m.tmod 9 ≤ 8 := by
  have h1 := Int.tmod_lt_of_pos m (show (0 : Int) < 9 by decide)
  have h2 := Int.tmod_lt_of_pos (-m) (show (0 : Int) < 9 by decide)
  rw [Int.neg_tmod] at h2
  omega
theorem Cap.pow {k : Nat} {x : Int} (h : Cap k x) (m : Nat) : Cap (k * m + 1) (x ^ m) := by
  unfold Cap at *
  rw [Int.natAbs_pow, Nat.pow_succ, Nat.pow_mul]
  have h1 : x.natAbs ^ m ≤ (10 ^ k) ^ m := Nat.pow_le_pow_left (Nat.le_of_lt h) m
  have h2 : 0 < (10 ^ k) ^ m := Nat.pow_pos (Nat.pow_pos (by decide))
  omega
theorem low_ne {x : Int × Int} {c : Int} (xp : 0 < x.2) (h : x.1 ≠ 0 ∨ 0 ≤ c) : (low x).1 ≠ 0 ∨ 0 ≤ c := by
  refine h.imp_left fun h0 e => ?_
  have := low_cross x
  rw [e, Int.zero_mul] at this
  rcases Int.mul_eq_zero.1 this.symm with h | h
  · exact h0 h
  · have := low_pos xp; omega
theorem powP_1 {p : Int × Int} (h : Low p) : powP p 1 = p := by
  have := powP_nat h 1
  rw [Int.pow_succ, Int.pow_succ, Int.pow_zero, Int.pow_zero, Int.one_mul, Int.one_mul] at this
  exact this
theorem powP_0 {p : Int × Int} (h : Low p) : powP p 0 = (1, 1) := by
  have := powP_nat h 0
  simpa using this
theorem powP_add {p : Int × Int} {i k : Int} (h : Low p) (hi : p.1 ≠ 0 ∨ 0 ≤ i) (hk : p.1 ≠ 0 ∨ 0 ≤ k) (hs : p.1 ≠ 0 ∨ 0 ≤ i + k) : mulP (powP p i) (powP p k) = powP p (i + k) := by
  unfold powP
  have hp := h.1
  exact powS_add (by omega) hi hk hs
theorem powP_val {p : Int × Int} {c : Int} (h : Low p) (hc : CapP 13 p) (h0 : p.1 ≠ 0 ∨ 0 ≤ c) (h8 : -8 ≤ c ∧ c ≤ 8) : Val (cS (powP p c).1) (cD (powP p c).2) (powP p c) := by
  have hp := h.1
  have hne := powU_ne (b := p.2) h0 (by omega)
  have hcap : Cap 200 (powU p.1 p.2 c).1 ∧ Cap 200 (powU p.1 p.2 c).2 := by
    unfold powU
    split
    · exact ⟨(hc.1.pow _).mono (by omega), (hc.2.pow _).mono (by omega)⟩
    · exact ⟨(hc.2.pow _).mono (by omega), (hc.1.pow _).mono (by omega)⟩
  exact Val.of (k := 200) (CapP.redS hcap.1 hcap.2 hne) (redS_pos hne) (by decide)
theorem fPower_one {n d : ByteArray} {x : Int × Int} (w : World) (hG : Ground w) (h : Val n d x) :
    Calls Tryd.prog 27 #[.agg #[.string n, .string d], .int .i64 0] w fun r w' => r = .returned (.tuple #[.agg #[.string ⟨#[49]⟩, .string ⟨#[]⟩], .int .i64 0]) ∧ Below w.heap.size w w' := by
  have := fPower_v (c := 0) (z := (1, 1)) w hG h (by decide) (by decide) (.inr (by decide)) (powP_0 (Low.of_low h.pos))
  rwa [show cS (((1, 1) : Int × Int)).1 = ⟨#[49]⟩ from cS_one, show cD (((1, 1) : Int × Int)).2 = ⟨#[]⟩ from cD_one] at this

set_option maxRecDepth 100000 in
set_option maxHeartbeats 16000000 in
theorem fpowers_a1 (fn fd : ByteArray) (m n : Int) (w : World) (hG : Ground w) (hm0 : -128 ≤ m) (hm1 : m ≤ 127) (hn0 : -128 ≤ n) (hn1 : n ≤ 127) (h1 : fn.size ≤ 13) (h2 : fd.size ≤ 13) (h0 : (raw fn fd).1 = 0) (hin : m.tmod 9 < 0) (_hkn : True) :
    Calls Tryd.prog 7 #[.agg #[.string fn, .string fd], .int .i8 m, .int .i8 n] w fun e w' => e = .returned (.bool true) ∧ Below w.heap.size w w' := by
  have hl : flong 13 [(fn, fd)] = false := flong_false (by simp; omega)
  have HL := Lib.hid hl
  obtain ⟨x, hx⟩ : ∃ x, raw fn fd = x := ⟨_, rfl⟩
  have Hf : Giv 13 fn fd x := ⟨hx, h1, h2⟩
  have xp := Hf.pos
  rw [hx] at h0
  obtain ⟨i, hi⟩ : ∃ i, m.tmod 9 = i := ⟨_, rfl⟩
  obtain ⟨k, hk⟩ : ∃ k, n.tmod 9 = k := ⟨_, rfl⟩
  rw [hi] at hin
  have hi9 : -8 ≤ i ∧ i ≤ 8 := by rw [← hi]; exact tmod9 m
  have hk9 : -8 ≤ k ∧ k ≤ 8 := by rw [← hk]; exact tmod9 n
  have HI := Lib.hid hi
  have HK := Lib.hid hk
  have HR := Lib.hid (And.intro hi9 hk9)
  have hw1 : IntKind.i64.wrap m = m := IntWalk.i64_in _ (by omega)
  have hw2 : IntKind.i64.wrap n = n := IntWalk.i64_in _ (by omega)
  have hw3 : IntKind.i64.wrap (m.tmod 9) = m.tmod 9 := IntWalk.i64_in _ (by rw [hi]; omega)
  have hw4 : IntKind.i64.wrap (n.tmod 9) = n.tmod 9 := IntWalk.i64_in _ (by rw [hk]; omega)
  have hw5 : IntKind.i64.wrap (i + k) = i + k := IntWalk.i64_in _ (by omega)
  clear hl hx hi hk hi9 hk9 hm0 hm1 hn0 hn1
  obtain ⟨W0, hW0⟩ : ∃ W0, W0 = w.alloc (.cells #[.string fn, .string fd] 24) := ⟨_, rfl⟩
  have hS : StL w W0 [(w.heap.size, fn, fd)] := by rw [hW0]; exact StL.one hG _ _
  go_enter Tryd.func7, Tryd.ntmps7
  go_upto_region 1 with fail
  rw [← hW0]
  clear hW0
  obtain ⟨fp0, _⟩ := hS.box
  obtain ⟨fx0, fy0, _, _⟩ := fp0.cells
  go_wp2_with fail
  obtain ⟨W1, hW1⟩ : ∃ W1, W1 = W0.alloc (.cells #[.string fn, .string fd] 24) := ⟨_, rfl⟩
  have hc0 : ∀ i, i < 1 → W1.cell? ⟨W0.heap.size, i * 2, none⟩ = some (.string ([(fn, fd)].getD i (⟨#[]⟩, ⟨#[]⟩)).1) ∧ W1.cell? ⟨W0.heap.size, i * 2 + 1, none⟩ = some (.string ([(fn, fd)].getD i (⟨#[]⟩, ⟨#[]⟩)).2) := by rw [hW1]; exact fgreat_cells W0 [(fn, fd)]
  have hS1 : StL w W1 [(w.heap.size, fn, fd)] := by rw [hW1]; exact hS.other _
  rw [← hW1]
  clear fp0 fx0 fy0
  clear hW1 hS
  have hS := hS1
  clear hS1
  refine (rLong_any W1 W0.heap.size 1 [(fn, fd)] rfl (by decide) hc0).mono ?_
  rintro _ _ ⟨rfl, rfl⟩
  clear hc0
  rw [HL.out]
  go_upto_region 3 with fail
  go_cut [7, 8] (fun s7 s8 wx => s7 = .int .i64 i ∧ s8 = .int .i64 k ∧ StL w wx [(w.heap.size, fn, fd)])
  case first =>
    go_wp2_with fail
    go_meet
    exact ⟨by rw [HI.out], by rw [HK.out], hS⟩
  clear hS
  obtain ⟨rfl, rfl, hS⟩ := hcut
  clear hw1 hw2 hw3 hw4
  obtain ⟨w1, hw⟩ : ∃ W, W = wc := ⟨_, rfl⟩
  rw [← hw] at hS
  rw [← hw]
  clear hw
  go_upto_region 4 with fail
  have HC := Lib.hid (show cmpP x (0, 1) = 0 by unfold cmpP; rw [cmp3_zero]; show x.1 * 1 = 0 * x.2; rw [h0]; simp)
  have H0 := Lib.hid h0
  clear h0
  obtain ⟨fp0, _⟩ := hS.box
  obtain ⟨fx0, fy0, _, _⟩ := fp0.cells
  go_wp2_with fail
  clear fp0 fx0 fy0
  refine Calls.mono (fCompare_v (c := 0) _ hS.g (Hf.arg (by decide)) Val.zero (HC.out)) ?_
  rintro _ w2 ⟨rfl, hB⟩
  replace hS := hS.next hB
  clear hB
  obtain ⟨fp0, _⟩ := hS.box
  obtain ⟨fx0, fy0, _, _⟩ := fp0.cells
  go_wp2_with fail
  clear fp0 fx0 fy0
  refine Calls.mono (fPower_z (c := min i k) _ hS.g (Hf.arg (by decide)) (by have := HR.out; omega) (by have := HR.out; omega) H0.out) ?_
  rintro _ w3 ⟨rfl, hB⟩
  replace hS := hS.next hB
  clear hB
  go_upto_region 6 with fail
  obtain ⟨b4, hb4⟩ : ∃ b, b = w3.heap.size := ⟨_, rfl⟩
  obtain ⟨V4, hV4⟩ : ∃ V, V = w3.alloc (.cells #[.string ⟨#[]⟩, .string ⟨#[]⟩] 24) := ⟨_, rfl⟩
  have hT : StL w V4 [(b4, ⟨#[]⟩, ⟨#[]⟩), (w.heap.size, fn, fd)] := by rw [hV4, hb4]; exact hS.alloc _ _
  rw [← hb4, ← hV4]
  clear hV4 hb4 hS
  have hS := hT
  clear hT
  obtain ⟨fp0, fp1, _⟩ := hS.box
  obtain ⟨fx0, fy0, _, _⟩ := fp0.cells
  obtain ⟨fx1, fy1, _, _⟩ := fp1.cells
  go_wp2_with fail
  clear fp0 fx0 fy0 fp1 fx1 fy1
  refine Calls.mono (fawake_any _ hS.g) ?_
  rintro _ w5 ⟨rfl, hB⟩
  replace hS := hS.next hB
  clear hB
  obtain ⟨fp0, fp1, _⟩ := hS.box
  obtain ⟨fx0, fy0, _, _⟩ := fp0.cells
  obtain ⟨fx1, fy1, _, _⟩ := fp1.cells
  go_wp2_with fail
  go_ret
  exact ⟨rfl, hS.below⟩

set_option maxRecDepth 100000 in
set_option maxHeartbeats 16000000 in
theorem fpowers_a2 (fn fd : ByteArray) (m n : Int) (w : World) (hG : Ground w) (hm0 : -128 ≤ m) (hm1 : m ≤ 127) (hn0 : -128 ≤ n) (hn1 : n ≤ 127) (h1 : fn.size ≤ 13) (h2 : fd.size ≤ 13) (h0 : (raw fn fd).1 = 0) (hin : ¬ m.tmod 9 < 0) (hkn : n.tmod 9 < 0) :
    Calls Tryd.prog 7 #[.agg #[.string fn, .string fd], .int .i8 m, .int .i8 n] w fun e w' => e = .returned (.bool true) ∧ Below w.heap.size w w' := by
  have hl : flong 13 [(fn, fd)] = false := flong_false (by simp; omega)
  have HL := Lib.hid hl
  obtain ⟨x, hx⟩ : ∃ x, raw fn fd = x := ⟨_, rfl⟩
  have Hf : Giv 13 fn fd x := ⟨hx, h1, h2⟩
  have xp := Hf.pos
  rw [hx] at h0
  obtain ⟨i, hi⟩ : ∃ i, m.tmod 9 = i := ⟨_, rfl⟩
  obtain ⟨k, hk⟩ : ∃ k, n.tmod 9 = k := ⟨_, rfl⟩
  rw [hi] at hin
  rw [hk] at hkn
  have hi9 : -8 ≤ i ∧ i ≤ 8 := by rw [← hi]; exact tmod9 m
  have hk9 : -8 ≤ k ∧ k ≤ 8 := by rw [← hk]; exact tmod9 n
  have HI := Lib.hid hi
  have HK := Lib.hid hk
  have HR := Lib.hid (And.intro hi9 hk9)
  have hw1 : IntKind.i64.wrap m = m := IntWalk.i64_in _ (by omega)
  have hw2 : IntKind.i64.wrap n = n := IntWalk.i64_in _ (by omega)
  have hw3 : IntKind.i64.wrap (m.tmod 9) = m.tmod 9 := IntWalk.i64_in _ (by rw [hi]; omega)
  have hw4 : IntKind.i64.wrap (n.tmod 9) = n.tmod 9 := IntWalk.i64_in _ (by rw [hk]; omega)
  have hw5 : IntKind.i64.wrap (i + k) = i + k := IntWalk.i64_in _ (by omega)
  clear hl hx hi hk hi9 hk9 hm0 hm1 hn0 hn1
  obtain ⟨W0, hW0⟩ : ∃ W0, W0 = w.alloc (.cells #[.string fn, .string fd] 24) := ⟨_, rfl⟩
  have hS : StL w W0 [(w.heap.size, fn, fd)] := by rw [hW0]; exact StL.one hG _ _
  go_enter Tryd.func7, Tryd.ntmps7
  go_upto_region 1 with fail
  rw [← hW0]
  clear hW0
  obtain ⟨fp0, _⟩ := hS.box
  obtain ⟨fx0, fy0, _, _⟩ := fp0.cells
  go_wp2_with fail
  obtain ⟨W1, hW1⟩ : ∃ W1, W1 = W0.alloc (.cells #[.string fn, .string fd] 24) := ⟨_, rfl⟩
  have hc0 : ∀ i, i < 1 → W1.cell? ⟨W0.heap.size, i * 2, none⟩ = some (.string ([(fn, fd)].getD i (⟨#[]⟩, ⟨#[]⟩)).1) ∧ W1.cell? ⟨W0.heap.size, i * 2 + 1, none⟩ = some (.string ([(fn, fd)].getD i (⟨#[]⟩, ⟨#[]⟩)).2) := by rw [hW1]; exact fgreat_cells W0 [(fn, fd)]
  have hS1 : StL w W1 [(w.heap.size, fn, fd)] := by rw [hW1]; exact hS.other _
  rw [← hW1]
  clear fp0 fx0 fy0
  clear hW1 hS
  have hS := hS1
  clear hS1
  refine (rLong_any W1 W0.heap.size 1 [(fn, fd)] rfl (by decide) hc0).mono ?_
  rintro _ _ ⟨rfl, rfl⟩
  clear hc0
  rw [HL.out]
  go_upto_region 3 with fail
  go_cut [7, 8] (fun s7 s8 wx => s7 = .int .i64 i ∧ s8 = .int .i64 k ∧ StL w wx [(w.heap.size, fn, fd)])
  case first =>
    go_wp2_with fail
    go_meet
    exact ⟨by rw [HI.out], by rw [HK.out], hS⟩
  clear hS
  obtain ⟨rfl, rfl, hS⟩ := hcut
  clear hw1 hw2 hw3 hw4
  obtain ⟨w1, hw⟩ : ∃ W, W = wc := ⟨_, rfl⟩
  rw [← hw] at hS
  rw [← hw]
  clear hw
  go_upto_region 4 with fail
  have HC := Lib.hid (show cmpP x (0, 1) = 0 by unfold cmpP; rw [cmp3_zero]; show x.1 * 1 = 0 * x.2; rw [h0]; simp)
  have H0 := Lib.hid h0
  clear h0
  obtain ⟨fp0, _⟩ := hS.box
  obtain ⟨fx0, fy0, _, _⟩ := fp0.cells
  go_wp2_with fail
  clear fp0 fx0 fy0
  refine Calls.mono (fCompare_v (c := 0) _ hS.g (Hf.arg (by decide)) Val.zero (HC.out)) ?_
  rintro _ w2 ⟨rfl, hB⟩
  replace hS := hS.next hB
  clear hB
  obtain ⟨fp0, _⟩ := hS.box
  obtain ⟨fx0, fy0, _, _⟩ := fp0.cells
  go_wp2_with fail
  clear fp0 fx0 fy0
  refine Calls.mono (fPower_z (c := min i k) _ hS.g (Hf.arg (by decide)) (by have := HR.out; omega) (by have := HR.out; omega) H0.out) ?_
  rintro _ w3 ⟨rfl, hB⟩
  replace hS := hS.next hB
  clear hB
  go_upto_region 6 with fail
  obtain ⟨b4, hb4⟩ : ∃ b, b = w3.heap.size := ⟨_, rfl⟩
  obtain ⟨V4, hV4⟩ : ∃ V, V = w3.alloc (.cells #[.string ⟨#[]⟩, .string ⟨#[]⟩] 24) := ⟨_, rfl⟩
  have hT : StL w V4 [(b4, ⟨#[]⟩, ⟨#[]⟩), (w.heap.size, fn, fd)] := by rw [hV4, hb4]; exact hS.alloc _ _
  rw [← hb4, ← hV4]
  clear hV4 hb4 hS
  have hS := hT
  clear hT
  obtain ⟨fp0, fp1, _⟩ := hS.box
  obtain ⟨fx0, fy0, _, _⟩ := fp0.cells
  obtain ⟨fx1, fy1, _, _⟩ := fp1.cells
  go_wp2_with fail
  clear fp0 fx0 fy0 fp1 fx1 fy1
  refine Calls.mono (fawake_any _ hS.g) ?_
  rintro _ w5 ⟨rfl, hB⟩
  replace hS := hS.next hB
  clear hB
  obtain ⟨fp0, fp1, _⟩ := hS.box
  obtain ⟨fx0, fy0, _, _⟩ := fp0.cells
  obtain ⟨fx1, fy1, _, _⟩ := fp1.cells
  go_wp2_with fail
  go_ret
  exact ⟨rfl, hS.below⟩

set_option maxRecDepth 100000 in
set_option maxHeartbeats 16000000 in
theorem fpowers_b1 (fn fd : ByteArray) (m n : Int) (w : World) (hG : Ground w) (hm0 : -128 ≤ m) (hm1 : m ≤ 127) (hn0 : -128 ≤ n) (hn1 : n ≤ 127) (h1 : fn.size ≤ 13) (h2 : fd.size ≤ 13) (h0 : (raw fn fd).1 ≠ 0) (_hin : True) (_hkn : True) :
    Calls Tryd.prog 7 #[.agg #[.string fn, .string fd], .int .i8 m, .int .i8 n] w fun e w' => e = .returned (.bool true) ∧ Below w.heap.size w w' := by
  have hl : flong 13 [(fn, fd)] = false := flong_false (by simp; omega)
  have HL := Lib.hid hl
  obtain ⟨x, hx⟩ : ∃ x, raw fn fd = x := ⟨_, rfl⟩
  have Hf : Giv 13 fn fd x := ⟨hx, h1, h2⟩
  have xp := Hf.pos
  rw [hx] at h0
  obtain ⟨i, hi⟩ : ∃ i, m.tmod 9 = i := ⟨_, rfl⟩
  obtain ⟨k, hk⟩ : ∃ k, n.tmod 9 = k := ⟨_, rfl⟩
  have hi9 : -8 ≤ i ∧ i ≤ 8 := by rw [← hi]; exact tmod9 m
  have hk9 : -8 ≤ k ∧ k ≤ 8 := by rw [← hk]; exact tmod9 n
  have HI := Lib.hid hi
  have HK := Lib.hid hk
  have HR := Lib.hid (And.intro hi9 hk9)
  have hw1 : IntKind.i64.wrap m = m := IntWalk.i64_in _ (by omega)
  have hw2 : IntKind.i64.wrap n = n := IntWalk.i64_in _ (by omega)
  have hw3 : IntKind.i64.wrap (m.tmod 9) = m.tmod 9 := IntWalk.i64_in _ (by rw [hi]; omega)
  have hw4 : IntKind.i64.wrap (n.tmod 9) = n.tmod 9 := IntWalk.i64_in _ (by rw [hk]; omega)
  have hw5 : IntKind.i64.wrap (i + k) = i + k := IntWalk.i64_in _ (by omega)
  clear hl hx hi hk hi9 hk9 hm0 hm1 hn0 hn1
  obtain ⟨W0, hW0⟩ : ∃ W0, W0 = w.alloc (.cells #[.string fn, .string fd] 24) := ⟨_, rfl⟩
  have hS : StL w W0 [(w.heap.size, fn, fd)] := by rw [hW0]; exact StL.one hG _ _
  go_enter Tryd.func7, Tryd.ntmps7
  go_upto_region 1 with fail
  rw [← hW0]
  clear hW0
  obtain ⟨fp0, _⟩ := hS.box
  obtain ⟨fx0, fy0, _, _⟩ := fp0.cells
  go_wp2_with fail
  obtain ⟨W1, hW1⟩ : ∃ W1, W1 = W0.alloc (.cells #[.string fn, .string fd] 24) := ⟨_, rfl⟩
  have hc0 : ∀ i, i < 1 → W1.cell? ⟨W0.heap.size, i * 2, none⟩ = some (.string ([(fn, fd)].getD i (⟨#[]⟩, ⟨#[]⟩)).1) ∧ W1.cell? ⟨W0.heap.size, i * 2 + 1, none⟩ = some (.string ([(fn, fd)].getD i (⟨#[]⟩, ⟨#[]⟩)).2) := by rw [hW1]; exact fgreat_cells W0 [(fn, fd)]
  have hS1 : StL w W1 [(w.heap.size, fn, fd)] := by rw [hW1]; exact hS.other _
  rw [← hW1]
  clear fp0 fx0 fy0
  clear hW1 hS
  have hS := hS1
  clear hS1
  refine (rLong_any W1 W0.heap.size 1 [(fn, fd)] rfl (by decide) hc0).mono ?_
  rintro _ _ ⟨rfl, rfl⟩
  clear hc0
  rw [HL.out]
  go_upto_region 3 with fail
  go_cut [7, 8] (fun s7 s8 wx => s7 = .int .i64 i ∧ s8 = .int .i64 k ∧ StL w wx [(w.heap.size, fn, fd)])
  case first =>
    go_wp2_with fail
    go_meet
    exact ⟨by rw [HI.out], by rw [HK.out], hS⟩
  clear hS
  obtain ⟨rfl, rfl, hS⟩ := hcut
  clear hw1 hw2 hw3 hw4
  obtain ⟨w1, hw⟩ : ∃ W, W = wc := ⟨_, rfl⟩
  rw [← hw] at hS
  rw [← hw]
  clear hw
  go_upto_region 4 with fail
  obtain ⟨c, hcv⟩ : ∃ c, cmpP x (0, 1) = c := ⟨_, rfl⟩
  have HC := Lib.hid (And.intro hcv (show c ≠ 0 by rw [← hcv]; unfold cmpP; intro e; rw [cmp3_zero] at e; have e' : x.1 * 1 = 0 * x.2 := e; rw [Int.mul_one, Int.zero_mul] at e'; exact h0 e'))
  have HZ := Lib.hid (show (x.1 ≠ 0 ∨ 0 ≤ i) ∧ (x.1 ≠ 0 ∨ 0 ≤ k) ∧ (x.1 ≠ 0 ∨ 0 ≤ i + k) ∧ (x.1 ≠ 0 ∨ (0 : Int) ≤ 0) ∧ (x.1 ≠ 0 ∨ (0 : Int) ≤ 1) from ⟨.inl h0, .inl h0, .inl h0, .inl h0, .inl h0⟩)
  clear hcv h0
  obtain ⟨fp0, _⟩ := hS.box
  obtain ⟨fx0, fy0, _, _⟩ := fp0.cells
  go_wp2_with fail
  clear fp0 fx0 fy0
  refine Calls.mono (fCompare_v (c := c) _ hS.g (Hf.arg (by decide)) Val.zero (HC.out.1)) ?_
  rintro _ w2 ⟨rfl, hB⟩
  replace hS := hS.next hB
  clear hB
  have hc := HC.out.2
  have hcc : (c == 0) = false := by simpa using hc
  obtain ⟨fp0, _⟩ := hS.box
  obtain ⟨fx0, fy0, _, _⟩ := fp0.cells
  go_upto_region 7 with fail
  clear fp0 fx0 fy0
  clear hcc hc
  obtain ⟨fp0, _⟩ := hS.box
  obtain ⟨fx0, fy0, _, _⟩ := fp0.cells
  go_wp2_with fail
  clear fp0 fx0 fy0
  refine Calls.mono (fPower_v (c := i) (z := powP (low x) i) _ hS.g (Hf.arg (by decide)) (by have := HR.out; omega) (by have := HR.out; omega) HZ.out.1 (rfl)) ?_
  rintro _ w3 ⟨rfl, hB⟩
  replace hS := hS.next hB
  clear hB
  go_upto_region 8 with fail
  obtain ⟨b4, hb4⟩ : ∃ b, b = w3.heap.size := ⟨_, rfl⟩
  obtain ⟨V4, hV4⟩ : ∃ V, V = w3.alloc (.cells #[.string (cS (powP (low x) i).1), .string (cD (powP (low x) i).2)] 24) := ⟨_, rfl⟩
  have hT : StL w V4 [(b4, (cS (powP (low x) i).1), (cD (powP (low x) i).2)), (w.heap.size, fn, fd)] := by rw [hV4, hb4]; exact hS.alloc _ _
  rw [← hb4, ← hV4]
  clear hV4 hb4 hS
  have hS := hT
  clear hT
  obtain ⟨fp0, fp1, _⟩ := hS.box
  obtain ⟨fx0, fy0, _, _⟩ := fp0.cells
  obtain ⟨fx1, fy1, _, _⟩ := fp1.cells
  go_wp2_with fail
  clear fp0 fx0 fy0 fp1 fx1 fy1
  refine Calls.mono (fPower_v (c := k) (z := powP (low x) k) _ hS.g (Hf.arg (by decide)) (by have := HR.out; omega) (by have := HR.out; omega) HZ.out.2.1 (rfl)) ?_
  rintro _ w5 ⟨rfl, hB⟩
  replace hS := hS.next hB
  clear hB
  go_upto_region 9 with fail
  obtain ⟨b6, hb6⟩ : ∃ b, b = w5.heap.size := ⟨_, rfl⟩
  obtain ⟨V6, hV6⟩ : ∃ V, V = w5.alloc (.cells #[.string (cS (powP (low x) k).1), .string (cD (powP (low x) k).2)] 24) := ⟨_, rfl⟩
  have hT : StL w V6 [(b6, (cS (powP (low x) k).1), (cD (powP (low x) k).2)), (b4, (cS (powP (low x) i).1), (cD (powP (low x) i).2)), (w.heap.size, fn, fd)] := by rw [hV6, hb6]; exact hS.alloc _ _
  rw [← hb6, ← hV6]
  clear hV6 hb6 hS
  have hS := hT
  clear hT
  obtain ⟨fp0, fp1, fp2, _⟩ := hS.box
  obtain ⟨fx0, fy0, _, _⟩ := fp0.cells
  obtain ⟨fx1, fy1, _, _⟩ := fp1.cells
  obtain ⟨fx2, fy2, _, _⟩ := fp2.cells
  go_wp2_with fail
  clear fp0 fx0 fy0 fp1 fx1 fy1 fp2 fx2 fy2
  refine Calls.mono (fPower_v (c := i + k) (z := powP (low x) (i + k)) _ hS.g (Hf.arg (by decide)) (by have := HR.out; omega) (by have := HR.out; omega) HZ.out.2.2.1 (rfl)) ?_
  rintro _ w7 ⟨rfl, hB⟩
  replace hS := hS.next hB
  clear hB
  go_upto_region 10 with fail
  obtain ⟨b8, hb8⟩ : ∃ b, b = w7.heap.size := ⟨_, rfl⟩
  obtain ⟨V8, hV8⟩ : ∃ V, V = w7.alloc (.cells #[.string (cS (powP (low x) (i + k)).1), .string (cD (powP (low x) (i + k)).2)] 24) := ⟨_, rfl⟩
  have hT : StL w V8 [(b8, (cS (powP (low x) (i + k)).1), (cD (powP (low x) (i + k)).2)), (b6, (cS (powP (low x) k).1), (cD (powP (low x) k).2)), (b4, (cS (powP (low x) i).1), (cD (powP (low x) i).2)), (w.heap.size, fn, fd)] := by rw [hV8, hb8]; exact hS.alloc _ _
  rw [← hb8, ← hV8]
  clear hV8 hb8 hS
  have hS := hT
  clear hT
  obtain ⟨fp0, fp1, fp2, fp3, _⟩ := hS.box
  obtain ⟨fx0, fy0, _, _⟩ := fp0.cells
  obtain ⟨fx1, fy1, _, _⟩ := fp1.cells
  obtain ⟨fx2, fy2, _, _⟩ := fp2.cells
  obtain ⟨fx3, fy3, _, _⟩ := fp3.cells
  go_wp2_with fail
  clear fp0 fx0 fy0 fp1 fx1 fy1 fp2 fx2 fy2 fp3 fx3 fy3
  refine Calls.mono (fPower_one _ hS.g (Hf.arg (by decide))) ?_
  rintro _ w9 ⟨rfl, hB⟩
  replace hS := hS.next hB
  clear hB
  go_upto_region 11 with fail
  obtain ⟨b10, hb10⟩ : ∃ b, b = w9.heap.size := ⟨_, rfl⟩
  obtain ⟨V10, hV10⟩ : ∃ V, V = w9.alloc (.cells #[.string ⟨#[49]⟩, .string ⟨#[]⟩] 24) := ⟨_, rfl⟩
  have hT : StL w V10 [(b10, ⟨#[49]⟩, ⟨#[]⟩), (b8, (cS (powP (low x) (i + k)).1), (cD (powP (low x) (i + k)).2)), (b6, (cS (powP (low x) k).1), (cD (powP (low x) k).2)), (b4, (cS (powP (low x) i).1), (cD (powP (low x) i).2)), (w.heap.size, fn, fd)] := by rw [hV10, hb10]; exact hS.alloc _ _
  rw [← hb10, ← hV10]
  clear hV10 hb10 hS
  have hS := hT
  clear hT
  obtain ⟨fp0, fp1, fp2, fp3, fp4, _⟩ := hS.box
  obtain ⟨fx0, fy0, _, _⟩ := fp0.cells
  obtain ⟨fx1, fy1, _, _⟩ := fp1.cells
  obtain ⟨fx2, fy2, _, _⟩ := fp2.cells
  obtain ⟨fx3, fy3, _, _⟩ := fp3.cells
  obtain ⟨fx4, fy4, _, _⟩ := fp4.cells
  go_wp2_with fail
  clear fp0 fx0 fy0 fp1 fx1 fy1 fp2 fx2 fy2 fp3 fx3 fy3 fp4 fx4 fy4
  refine Calls.mono (fPower_v (c := 1) (z := low x) _ hS.g (Hf.arg (by decide)) (by have := HR.out; omega) (by have := HR.out; omega) HZ.out.2.2.2.2 (powP_1 (Low.of_low xp))) ?_
  rintro _ w11 ⟨rfl, hB⟩
  replace hS := hS.next hB
  clear hB
  go_upto_region 12 with fail
  obtain ⟨b12, hb12⟩ : ∃ b, b = w11.heap.size := ⟨_, rfl⟩
  obtain ⟨V12, hV12⟩ : ∃ V, V = w11.alloc (.cells #[.string (cS (low x).1), .string (cD (low x).2)] 24) := ⟨_, rfl⟩
  have hT : StL w V12 [(b12, (cS (low x).1), (cD (low x).2)), (b10, ⟨#[49]⟩, ⟨#[]⟩), (b8, (cS (powP (low x) (i + k)).1), (cD (powP (low x) (i + k)).2)), (b6, (cS (powP (low x) k).1), (cD (powP (low x) k).2)), (b4, (cS (powP (low x) i).1), (cD (powP (low x) i).2)), (w.heap.size, fn, fd)] := by rw [hV12, hb12]; exact hS.alloc _ _
  rw [← hb12, ← hV12]
  clear hV12 hb12 hS
  have hS := hT
  clear hT
  have HMUL := Lib.hid (show mulP (powP (low x) i) (powP (low x) k) = powP (low x) (i + k) ∧ Val (cS (powP (low x) i).1) (cD (powP (low x) i).2) (powP (low x) i) ∧ Val (cS (powP (low x) k).1) (cD (powP (low x) k).2) (powP (low x) k) from ⟨powP_add (Low.of_low xp) (low_ne xp HZ.out.1) (low_ne xp HZ.out.2.1) (low_ne xp HZ.out.2.2.1), powP_val (Low.of_low xp) (CapP.low (Hf.cap (by decide)) xp) (low_ne xp HZ.out.1) (by have := HR.out; omega), powP_val (Low.of_low xp) (CapP.low (Hf.cap (by decide)) xp) (low_ne xp HZ.out.2.1) (by have := HR.out; omega)⟩)
  obtain ⟨fp0, fp1, fp2, fp3, fp4, fp5, _⟩ := hS.box
  obtain ⟨fx0, fy0, _, _⟩ := fp0.cells
  obtain ⟨fx1, fy1, _, _⟩ := fp1.cells
  obtain ⟨fx2, fy2, _, _⟩ := fp2.cells
  obtain ⟨fx3, fy3, _, _⟩ := fp3.cells
  obtain ⟨fx4, fy4, _, _⟩ := fp4.cells
  obtain ⟨fx5, fy5, _, _⟩ := fp5.cells
  have hgu := frac_guards
  have heq := frac_same
  try go_upto_region 12 with fail
  have HS := Lib.hid hS
  clear hS
  go_cut [6] (fun s6 wx => s6 = .bool true ∧ StL w wx [(b12, (cS (low x).1), (cD (low x).2)), (b10, ⟨#[49]⟩, ⟨#[]⟩), (b8, (cS (powP (low x) (i + k)).1), (cD (powP (low x) (i + k)).2)), (b6, (cS (powP (low x) k).1), (cD (powP (low x) k).2)), (b4, (cS (powP (low x) i).1), (cD (powP (low x) i).2)), (w.heap.size, fn, fd)])
  case first =>
    go_region_held3 (fun w' => w'.cell? ⟨b12, 0, none⟩ = some (.string (cS (low x).1)) ∧ w'.cell? ⟨b12, 1, none⟩ = some (.string (cD (low x).2)) ∧ w'.cell? ⟨b10, 0, none⟩ = some (.string ⟨#[49]⟩) ∧ w'.cell? ⟨b10, 1, none⟩ = some (.string ⟨#[]⟩) ∧ w'.cell? ⟨b8, 0, none⟩ = some (.string (cS (powP (low x) (i + k)).1)) ∧ w'.cell? ⟨b8, 1, none⟩ = some (.string (cD (powP (low x) (i + k)).2)) ∧ w'.cell? ⟨b6, 0, none⟩ = some (.string (cS (powP (low x) k).1)) ∧ w'.cell? ⟨b6, 1, none⟩ = some (.string (cD (powP (low x) k).2)) ∧ w'.cell? ⟨b4, 0, none⟩ = some (.string (cS (powP (low x) i).1)) ∧ w'.cell? ⟨b4, 1, none⟩ = some (.string (cD (powP (low x) i).2)) ∧ w'.cell? ⟨w.heap.size, 0, none⟩ = some (.string fn) ∧ w'.cell? ⟨w.heap.size, 1, none⟩ = some (.string fd))
      (go_keep)
      (first
    | (go_at_call 12;
         (first
           | (with_reducible refine Calls.mono (fMul_v (z := powP (low x) (i + k)) _ (by first | exact HS.out.g | exact HS.out.drew.g | exact (HS.out.drewN _).g) HMUL.out.2.1 HMUL.out.2.2 HMUL.out.1) ?_));
         (rintro e WX ⟨rfl, hB1⟩);
         (have HS2 : StL w WX [(b12, (cS (low x).1), (cD (low x).2)), (b10, ⟨#[49]⟩, ⟨#[]⟩), (b8, (cS (powP (low x) (i + k)).1), (cD (powP (low x) (i + k)).2)), (b6, (cS (powP (low x) k).1), (cD (powP (low x) k).2)), (b4, (cS (powP (low x) i).1), (cD (powP (low x) i).2)), (w.heap.size, fn, fd)] := (by first | exact HS.out.next hB1 | exact HS.out.next1 hB1 | exact HS.out.nextD hB1));
         (replace HS := Lib.hid HS2);
         (clear hB1 HS2);
         (obtain ⟨fp0, fp1, fp2, fp3, fp4, fp5, _⟩ := HS.out.box);
         (obtain ⟨fx0, fy0, _, _⟩ := fp0.cells);
         (obtain ⟨fx1, fy1, _, _⟩ := fp1.cells);
         (obtain ⟨fx2, fy2, _, _⟩ := fp2.cells);
         (obtain ⟨fx3, fy3, _, _⟩ := fp3.cells);
         (obtain ⟨fx4, fy4, _, _⟩ := fp4.cells);
         (obtain ⟨fx5, fy5, _, _⟩ := fp5.cells))
    | (go_at_call 18;
         (first
           | (with_reducible refine Calls.mono (fOf_one _ (by first | exact HS.out.g | exact HS.out.drew.g | exact (HS.out.drewN _).g)) ?_));
         (rintro e WX ⟨rfl, hB1⟩);
         (have HS2 : StL w WX [(b12, (cS (low x).1), (cD (low x).2)), (b10, ⟨#[49]⟩, ⟨#[]⟩), (b8, (cS (powP (low x) (i + k)).1), (cD (powP (low x) (i + k)).2)), (b6, (cS (powP (low x) k).1), (cD (powP (low x) k).2)), (b4, (cS (powP (low x) i).1), (cD (powP (low x) i).2)), (w.heap.size, fn, fd)] := (by first | exact HS.out.next hB1 | exact HS.out.next1 hB1 | exact HS.out.nextD hB1));
         (replace HS := Lib.hid HS2);
         (clear hB1 HS2);
         (obtain ⟨fp0, fp1, fp2, fp3, fp4, fp5, _⟩ := HS.out.box);
         (obtain ⟨fx0, fy0, _, _⟩ := fp0.cells);
         (obtain ⟨fx1, fy1, _, _⟩ := fp1.cells);
         (obtain ⟨fx2, fy2, _, _⟩ := fp2.cells);
         (obtain ⟨fx3, fy3, _, _⟩ := fp3.cells);
         (obtain ⟨fx4, fy4, _, _⟩ := fp4.cells);
         (obtain ⟨fx5, fy5, _, _⟩ := fp5.cells))
    | (go_at_call 11;
         (first
           | (with_reducible refine Calls.mono (fAdd_v (z := low x) _ (by first | exact HS.out.g | exact HS.out.drew.g | exact (HS.out.drewN _).g) (Hf.arg (by decide)) Val.zero (addP_zero)) ?_));
         (rintro e WX ⟨rfl, hB1⟩);
         (have HS2 : StL w WX [(b12, (cS (low x).1), (cD (low x).2)), (b10, ⟨#[49]⟩, ⟨#[]⟩), (b8, (cS (powP (low x) (i + k)).1), (cD (powP (low x) (i + k)).2)), (b6, (cS (powP (low x) k).1), (cD (powP (low x) k).2)), (b4, (cS (powP (low x) i).1), (cD (powP (low x) i).2)), (w.heap.size, fn, fd)] := (by first | exact HS.out.next hB1 | exact HS.out.next1 hB1 | exact HS.out.nextD hB1));
         (replace HS := Lib.hid HS2);
         (clear hB1 HS2);
         (obtain ⟨fp0, fp1, fp2, fp3, fp4, fp5, _⟩ := HS.out.box);
         (obtain ⟨fx0, fy0, _, _⟩ := fp0.cells);
         (obtain ⟨fx1, fy1, _, _⟩ := fp1.cells);
         (obtain ⟨fx2, fy2, _, _⟩ := fp2.cells);
         (obtain ⟨fx3, fy3, _, _⟩ := fp3.cells);
         (obtain ⟨fx4, fy4, _, _⟩ := fp4.cells);
         (obtain ⟨fx5, fy5, _, _⟩ := fp5.cells))
    | (go_at_call 10;
         (first
           | (with_reducible refine Calls.mono (fawake_any _ (by first | exact HS.out.g | exact HS.out.drew.g | exact (HS.out.drewN _).g)) ?_));
         (rintro e WX ⟨rfl, hB1⟩);
         (have HS2 : StL w WX [(b12, (cS (low x).1), (cD (low x).2)), (b10, ⟨#[49]⟩, ⟨#[]⟩), (b8, (cS (powP (low x) (i + k)).1), (cD (powP (low x) (i + k)).2)), (b6, (cS (powP (low x) k).1), (cD (powP (low x) k).2)), (b4, (cS (powP (low x) i).1), (cD (powP (low x) i).2)), (w.heap.size, fn, fd)] := (by first | exact HS.out.next hB1 | exact HS.out.next1 hB1 | exact HS.out.nextD hB1));
         (replace HS := Lib.hid HS2);
         (clear hB1 HS2);
         (obtain ⟨fp0, fp1, fp2, fp3, fp4, fp5, _⟩ := HS.out.box);
         (obtain ⟨fx0, fy0, _, _⟩ := fp0.cells);
         (obtain ⟨fx1, fy1, _, _⟩ := fp1.cells);
         (obtain ⟨fx2, fy2, _, _⟩ := fp2.cells);
         (obtain ⟨fx3, fy3, _, _⟩ := fp3.cells);
         (obtain ⟨fx4, fy4, _, _⟩ := fp4.cells);
         (obtain ⟨fx5, fy5, _, _⟩ := fp5.cells)))
    all_goals go_wp2_with fail
    all_goals go_meet
    all_goals exact ⟨rfl, (by first | exact HS.out | exact HS.out.drew | exact HS.out.drewN _)⟩
  clear HS
  clear fp0 fx0 fy0 fp1 fx1 fy1 fp2 fx2 fy2 fp3 fx3 fy3 fp4 fx4 fy4 fp5 fx5 fy5
  obtain ⟨rfl, hS⟩ := hcut
  obtain ⟨w13, hw⟩ : ∃ W, W = wc := ⟨_, rfl⟩
  rw [← hw] at hS
  rw [← hw]
  clear hw
  go_wp2_with fail
  go_ret
  exact ⟨rfl, hS.below⟩

set_option maxRecDepth 100000 in
set_option maxHeartbeats 16000000 in
theorem fpowers_b2 (fn fd : ByteArray) (m n : Int) (w : World) (hG : Ground w) (hm0 : -128 ≤ m) (hm1 : m ≤ 127) (hn0 : -128 ≤ n) (hn1 : n ≤ 127) (h1 : fn.size ≤ 13) (h2 : fd.size ≤ 13) (h0 : (raw fn fd).1 = 0) (hin : ¬ m.tmod 9 < 0) (hkn : ¬ n.tmod 9 < 0) :
    Calls Tryd.prog 7 #[.agg #[.string fn, .string fd], .int .i8 m, .int .i8 n] w fun e w' => e = .returned (.bool true) ∧ Below w.heap.size w w' := by
  have hl : flong 13 [(fn, fd)] = false := flong_false (by simp; omega)
  have HL := Lib.hid hl
  obtain ⟨x, hx⟩ : ∃ x, raw fn fd = x := ⟨_, rfl⟩
  have Hf : Giv 13 fn fd x := ⟨hx, h1, h2⟩
  have xp := Hf.pos
  rw [hx] at h0
  obtain ⟨i, hi⟩ : ∃ i, m.tmod 9 = i := ⟨_, rfl⟩
  obtain ⟨k, hk⟩ : ∃ k, n.tmod 9 = k := ⟨_, rfl⟩
  rw [hi] at hin
  rw [hk] at hkn
  have hi9 : -8 ≤ i ∧ i ≤ 8 := by rw [← hi]; exact tmod9 m
  have hk9 : -8 ≤ k ∧ k ≤ 8 := by rw [← hk]; exact tmod9 n
  have HI := Lib.hid hi
  have HK := Lib.hid hk
  have HR := Lib.hid (And.intro hi9 hk9)
  have hw1 : IntKind.i64.wrap m = m := IntWalk.i64_in _ (by omega)
  have hw2 : IntKind.i64.wrap n = n := IntWalk.i64_in _ (by omega)
  have hw3 : IntKind.i64.wrap (m.tmod 9) = m.tmod 9 := IntWalk.i64_in _ (by rw [hi]; omega)
  have hw4 : IntKind.i64.wrap (n.tmod 9) = n.tmod 9 := IntWalk.i64_in _ (by rw [hk]; omega)
  have hw5 : IntKind.i64.wrap (i + k) = i + k := IntWalk.i64_in _ (by omega)
  clear hl hx hi hk hi9 hk9 hm0 hm1 hn0 hn1
  obtain ⟨W0, hW0⟩ : ∃ W0, W0 = w.alloc (.cells #[.string fn, .string fd] 24) := ⟨_, rfl⟩
  have hS : StL w W0 [(w.heap.size, fn, fd)] := by rw [hW0]; exact StL.one hG _ _
  go_enter Tryd.func7, Tryd.ntmps7
  go_upto_region 1 with fail
  rw [← hW0]
  clear hW0
  obtain ⟨fp0, _⟩ := hS.box
  obtain ⟨fx0, fy0, _, _⟩ := fp0.cells
  go_wp2_with fail
  obtain ⟨W1, hW1⟩ : ∃ W1, W1 = W0.alloc (.cells #[.string fn, .string fd] 24) := ⟨_, rfl⟩
  have hc0 : ∀ i, i < 1 → W1.cell? ⟨W0.heap.size, i * 2, none⟩ = some (.string ([(fn, fd)].getD i (⟨#[]⟩, ⟨#[]⟩)).1) ∧ W1.cell? ⟨W0.heap.size, i * 2 + 1, none⟩ = some (.string ([(fn, fd)].getD i (⟨#[]⟩, ⟨#[]⟩)).2) := by rw [hW1]; exact fgreat_cells W0 [(fn, fd)]
  have hS1 : StL w W1 [(w.heap.size, fn, fd)] := by rw [hW1]; exact hS.other _
  rw [← hW1]
  clear fp0 fx0 fy0
  clear hW1 hS
  have hS := hS1
  clear hS1
  refine (rLong_any W1 W0.heap.size 1 [(fn, fd)] rfl (by decide) hc0).mono ?_
  rintro _ _ ⟨rfl, rfl⟩
  clear hc0
  rw [HL.out]
  go_upto_region 3 with fail
  go_cut [7, 8] (fun s7 s8 wx => s7 = .int .i64 i ∧ s8 = .int .i64 k ∧ StL w wx [(w.heap.size, fn, fd)])
  case first =>
    go_wp2_with fail
    go_meet
    exact ⟨by rw [HI.out], by rw [HK.out], hS⟩
  clear hS
  obtain ⟨rfl, rfl, hS⟩ := hcut
  clear hw1 hw2 hw3 hw4
  obtain ⟨w1, hw⟩ : ∃ W, W = wc := ⟨_, rfl⟩
  rw [← hw] at hS
  rw [← hw]
  clear hw
  go_upto_region 4 with fail
  have HC := Lib.hid (show cmpP x (0, 1) = 0 by unfold cmpP; rw [cmp3_zero]; show x.1 * 1 = 0 * x.2; rw [h0]; simp)
  have hsn : ¬ i + k < 0 := by omega
  have HZ := Lib.hid (show (x.1 ≠ 0 ∨ 0 ≤ i) ∧ (x.1 ≠ 0 ∨ 0 ≤ k) ∧ (x.1 ≠ 0 ∨ 0 ≤ i + k) ∧ (x.1 ≠ 0 ∨ (0 : Int) ≤ 0) ∧ (x.1 ≠ 0 ∨ (0 : Int) ≤ 1) from ⟨.inr (by omega), .inr (by omega), .inr (by omega), .inr (by decide), .inr (by decide)⟩)
  clear h0
  obtain ⟨fp0, _⟩ := hS.box
  obtain ⟨fx0, fy0, _, _⟩ := fp0.cells
  go_wp2_with fail
  clear fp0 fx0 fy0
  refine Calls.mono (fCompare_v (c := 0) _ hS.g (Hf.arg (by decide)) Val.zero (HC.out)) ?_
  rintro _ w2 ⟨rfl, hB⟩
  replace hS := hS.next hB
  clear hB
  obtain ⟨fp0, _⟩ := hS.box
  obtain ⟨fx0, fy0, _, _⟩ := fp0.cells
  go_upto_region 7 with fail
  clear fp0 fx0 fy0
  clear hin hkn hsn
  obtain ⟨fp0, _⟩ := hS.box
  obtain ⟨fx0, fy0, _, _⟩ := fp0.cells
  go_wp2_with fail
  clear fp0 fx0 fy0
  refine Calls.mono (fPower_v (c := i) (z := powP (low x) i) _ hS.g (Hf.arg (by decide)) (by have := HR.out; omega) (by have := HR.out; omega) HZ.out.1 (rfl)) ?_
  rintro _ w3 ⟨rfl, hB⟩
  replace hS := hS.next hB
  clear hB
  go_upto_region 8 with fail
  obtain ⟨b4, hb4⟩ : ∃ b, b = w3.heap.size := ⟨_, rfl⟩
  obtain ⟨V4, hV4⟩ : ∃ V, V = w3.alloc (.cells #[.string (cS (powP (low x) i).1), .string (cD (powP (low x) i).2)] 24) := ⟨_, rfl⟩
  have hT : StL w V4 [(b4, (cS (powP (low x) i).1), (cD (powP (low x) i).2)), (w.heap.size, fn, fd)] := by rw [hV4, hb4]; exact hS.alloc _ _
  rw [← hb4, ← hV4]
  clear hV4 hb4 hS
  have hS := hT
  clear hT
  obtain ⟨fp0, fp1, _⟩ := hS.box
  obtain ⟨fx0, fy0, _, _⟩ := fp0.cells
  obtain ⟨fx1, fy1, _, _⟩ := fp1.cells
  go_wp2_with fail
  clear fp0 fx0 fy0 fp1 fx1 fy1
  refine Calls.mono (fPower_v (c := k) (z := powP (low x) k) _ hS.g (Hf.arg (by decide)) (by have := HR.out; omega) (by have := HR.out; omega) HZ.out.2.1 (rfl)) ?_
  rintro _ w5 ⟨rfl, hB⟩
  replace hS := hS.next hB
  clear hB
  go_upto_region 9 with fail
  obtain ⟨b6, hb6⟩ : ∃ b, b = w5.heap.size := ⟨_, rfl⟩
  obtain ⟨V6, hV6⟩ : ∃ V, V = w5.alloc (.cells #[.string (cS (powP (low x) k).1), .string (cD (powP (low x) k).2)] 24) := ⟨_, rfl⟩
  have hT : StL w V6 [(b6, (cS (powP (low x) k).1), (cD (powP (low x) k).2)), (b4, (cS (powP (low x) i).1), (cD (powP (low x) i).2)), (w.heap.size, fn, fd)] := by rw [hV6, hb6]; exact hS.alloc _ _
  rw [← hb6, ← hV6]
  clear hV6 hb6 hS
  have hS := hT
  clear hT
  obtain ⟨fp0, fp1, fp2, _⟩ := hS.box
  obtain ⟨fx0, fy0, _, _⟩ := fp0.cells
  obtain ⟨fx1, fy1, _, _⟩ := fp1.cells
  obtain ⟨fx2, fy2, _, _⟩ := fp2.cells
  go_wp2_with fail
  clear fp0 fx0 fy0 fp1 fx1 fy1 fp2 fx2 fy2
  refine Calls.mono (fPower_v (c := i + k) (z := powP (low x) (i + k)) _ hS.g (Hf.arg (by decide)) (by have := HR.out; omega) (by have := HR.out; omega) HZ.out.2.2.1 (rfl)) ?_
  rintro _ w7 ⟨rfl, hB⟩
  replace hS := hS.next hB
  clear hB
  go_upto_region 10 with fail
  obtain ⟨b8, hb8⟩ : ∃ b, b = w7.heap.size := ⟨_, rfl⟩
  obtain ⟨V8, hV8⟩ : ∃ V, V = w7.alloc (.cells #[.string (cS (powP (low x) (i + k)).1), .string (cD (powP (low x) (i + k)).2)] 24) := ⟨_, rfl⟩
  have hT : StL w V8 [(b8, (cS (powP (low x) (i + k)).1), (cD (powP (low x) (i + k)).2)), (b6, (cS (powP (low x) k).1), (cD (powP (low x) k).2)), (b4, (cS (powP (low x) i).1), (cD (powP (low x) i).2)), (w.heap.size, fn, fd)] := by rw [hV8, hb8]; exact hS.alloc _ _
  rw [← hb8, ← hV8]
  clear hV8 hb8 hS
  have hS := hT
  clear hT
  obtain ⟨fp0, fp1, fp2, fp3, _⟩ := hS.box
  obtain ⟨fx0, fy0, _, _⟩ := fp0.cells
  obtain ⟨fx1, fy1, _, _⟩ := fp1.cells
  obtain ⟨fx2, fy2, _, _⟩ := fp2.cells
  obtain ⟨fx3, fy3, _, _⟩ := fp3.cells
  go_wp2_with fail
  clear fp0 fx0 fy0 fp1 fx1 fy1 fp2 fx2 fy2 fp3 fx3 fy3
  refine Calls.mono (fPower_one _ hS.g (Hf.arg (by decide))) ?_
  rintro _ w9 ⟨rfl, hB⟩
  replace hS := hS.next hB
  clear hB
  go_upto_region 11 with fail
  obtain ⟨b10, hb10⟩ : ∃ b, b = w9.heap.size := ⟨_, rfl⟩
  obtain ⟨V10, hV10⟩ : ∃ V, V = w9.alloc (.cells #[.string ⟨#[49]⟩, .string ⟨#[]⟩] 24) := ⟨_, rfl⟩
  have hT : StL w V10 [(b10, ⟨#[49]⟩, ⟨#[]⟩), (b8, (cS (powP (low x) (i + k)).1), (cD (powP (low x) (i + k)).2)), (b6, (cS (powP (low x) k).1), (cD (powP (low x) k).2)), (b4, (cS (powP (low x) i).1), (cD (powP (low x) i).2)), (w.heap.size, fn, fd)] := by rw [hV10, hb10]; exact hS.alloc _ _
  rw [← hb10, ← hV10]
  clear hV10 hb10 hS
  have hS := hT
  clear hT
  obtain ⟨fp0, fp1, fp2, fp3, fp4, _⟩ := hS.box
  obtain ⟨fx0, fy0, _, _⟩ := fp0.cells
  obtain ⟨fx1, fy1, _, _⟩ := fp1.cells
  obtain ⟨fx2, fy2, _, _⟩ := fp2.cells
  obtain ⟨fx3, fy3, _, _⟩ := fp3.cells
  obtain ⟨fx4, fy4, _, _⟩ := fp4.cells
  go_wp2_with fail
  clear fp0 fx0 fy0 fp1 fx1 fy1 fp2 fx2 fy2 fp3 fx3 fy3 fp4 fx4 fy4
  refine Calls.mono (fPower_v (c := 1) (z := low x) _ hS.g (Hf.arg (by decide)) (by have := HR.out; omega) (by have := HR.out; omega) HZ.out.2.2.2.2 (powP_1 (Low.of_low xp))) ?_
  rintro _ w11 ⟨rfl, hB⟩
  replace hS := hS.next hB
  clear hB
  go_upto_region 12 with fail
  obtain ⟨b12, hb12⟩ : ∃ b, b = w11.heap.size := ⟨_, rfl⟩
  obtain ⟨V12, hV12⟩ : ∃ V, V = w11.alloc (.cells #[.string (cS (low x).1), .string (cD (low x).2)] 24) := ⟨_, rfl⟩
  have hT : StL w V12 [(b12, (cS (low x).1), (cD (low x).2)), (b10, ⟨#[49]⟩, ⟨#[]⟩), (b8, (cS (powP (low x) (i + k)).1), (cD (powP (low x) (i + k)).2)), (b6, (cS (powP (low x) k).1), (cD (powP (low x) k).2)), (b4, (cS (powP (low x) i).1), (cD (powP (low x) i).2)), (w.heap.size, fn, fd)] := by rw [hV12, hb12]; exact hS.alloc _ _
  rw [← hb12, ← hV12]
  clear hV12 hb12 hS
  have hS := hT
  clear hT
  have HMUL := Lib.hid (show mulP (powP (low x) i) (powP (low x) k) = powP (low x) (i + k) ∧ Val (cS (powP (low x) i).1) (cD (powP (low x) i).2) (powP (low x) i) ∧ Val (cS (powP (low x) k).1) (cD (powP (low x) k).2) (powP (low x) k) from ⟨powP_add (Low.of_low xp) (low_ne xp HZ.out.1) (low_ne xp HZ.out.2.1) (low_ne xp HZ.out.2.2.1), powP_val (Low.of_low xp) (CapP.low (Hf.cap (by decide)) xp) (low_ne xp HZ.out.1) (by have := HR.out; omega), powP_val (Low.of_low xp) (CapP.low (Hf.cap (by decide)) xp) (low_ne xp HZ.out.2.1) (by have := HR.out; omega)⟩)
  obtain ⟨fp0, fp1, fp2, fp3, fp4, fp5, _⟩ := hS.box
  obtain ⟨fx0, fy0, _, _⟩ := fp0.cells
  obtain ⟨fx1, fy1, _, _⟩ := fp1.cells
  obtain ⟨fx2, fy2, _, _⟩ := fp2.cells
  obtain ⟨fx3, fy3, _, _⟩ := fp3.cells
  obtain ⟨fx4, fy4, _, _⟩ := fp4.cells
  obtain ⟨fx5, fy5, _, _⟩ := fp5.cells
  have hgu := frac_guards
  have heq := frac_same
  try go_upto_region 12 with fail
  have HS := Lib.hid hS
  clear hS
  go_cut [6] (fun s6 wx => s6 = .bool true ∧ StL w wx [(b12, (cS (low x).1), (cD (low x).2)), (b10, ⟨#[49]⟩, ⟨#[]⟩), (b8, (cS (powP (low x) (i + k)).1), (cD (powP (low x) (i + k)).2)), (b6, (cS (powP (low x) k).1), (cD (powP (low x) k).2)), (b4, (cS (powP (low x) i).1), (cD (powP (low x) i).2)), (w.heap.size, fn, fd)])
  case first =>
    go_region_held3 (fun w' => w'.cell? ⟨b12, 0, none⟩ = some (.string (cS (low x).1)) ∧ w'.cell? ⟨b12, 1, none⟩ = some (.string (cD (low x).2)) ∧ w'.cell? ⟨b10, 0, none⟩ = some (.string ⟨#[49]⟩) ∧ w'.cell? ⟨b10, 1, none⟩ = some (.string ⟨#[]⟩) ∧ w'.cell? ⟨b8, 0, none⟩ = some (.string (cS (powP (low x) (i + k)).1)) ∧ w'.cell? ⟨b8, 1, none⟩ = some (.string (cD (powP (low x) (i + k)).2)) ∧ w'.cell? ⟨b6, 0, none⟩ = some (.string (cS (powP (low x) k).1)) ∧ w'.cell? ⟨b6, 1, none⟩ = some (.string (cD (powP (low x) k).2)) ∧ w'.cell? ⟨b4, 0, none⟩ = some (.string (cS (powP (low x) i).1)) ∧ w'.cell? ⟨b4, 1, none⟩ = some (.string (cD (powP (low x) i).2)) ∧ w'.cell? ⟨w.heap.size, 0, none⟩ = some (.string fn) ∧ w'.cell? ⟨w.heap.size, 1, none⟩ = some (.string fd))
      (go_keep)
      (first
    | (go_at_call 12;
         (first
           | (with_reducible refine Calls.mono (fMul_v (z := powP (low x) (i + k)) _ (by first | exact HS.out.g | exact HS.out.drew.g | exact (HS.out.drewN _).g) HMUL.out.2.1 HMUL.out.2.2 HMUL.out.1) ?_));
         (rintro e WX ⟨rfl, hB1⟩);
         (have HS2 : StL w WX [(b12, (cS (low x).1), (cD (low x).2)), (b10, ⟨#[49]⟩, ⟨#[]⟩), (b8, (cS (powP (low x) (i + k)).1), (cD (powP (low x) (i + k)).2)), (b6, (cS (powP (low x) k).1), (cD (powP (low x) k).2)), (b4, (cS (powP (low x) i).1), (cD (powP (low x) i).2)), (w.heap.size, fn, fd)] := (by first | exact HS.out.next hB1 | exact HS.out.next1 hB1 | exact HS.out.nextD hB1));
         (replace HS := Lib.hid HS2);
         (clear hB1 HS2);
         (obtain ⟨fp0, fp1, fp2, fp3, fp4, fp5, _⟩ := HS.out.box);
         (obtain ⟨fx0, fy0, _, _⟩ := fp0.cells);
         (obtain ⟨fx1, fy1, _, _⟩ := fp1.cells);
         (obtain ⟨fx2, fy2, _, _⟩ := fp2.cells);
         (obtain ⟨fx3, fy3, _, _⟩ := fp3.cells);
         (obtain ⟨fx4, fy4, _, _⟩ := fp4.cells);
         (obtain ⟨fx5, fy5, _, _⟩ := fp5.cells))
    | (go_at_call 18;
         (first
           | (with_reducible refine Calls.mono (fOf_one _ (by first | exact HS.out.g | exact HS.out.drew.g | exact (HS.out.drewN _).g)) ?_));
         (rintro e WX ⟨rfl, hB1⟩);
         (have HS2 : StL w WX [(b12, (cS (low x).1), (cD (low x).2)), (b10, ⟨#[49]⟩, ⟨#[]⟩), (b8, (cS (powP (low x) (i + k)).1), (cD (powP (low x) (i + k)).2)), (b6, (cS (powP (low x) k).1), (cD (powP (low x) k).2)), (b4, (cS (powP (low x) i).1), (cD (powP (low x) i).2)), (w.heap.size, fn, fd)] := (by first | exact HS.out.next hB1 | exact HS.out.next1 hB1 | exact HS.out.nextD hB1));
         (replace HS := Lib.hid HS2);
         (clear hB1 HS2);
         (obtain ⟨fp0, fp1, fp2, fp3, fp4, fp5, _⟩ := HS.out.box);
         (obtain ⟨fx0, fy0, _, _⟩ := fp0.cells);
         (obtain ⟨fx1, fy1, _, _⟩ := fp1.cells);
         (obtain ⟨fx2, fy2, _, _⟩ := fp2.cells);
         (obtain ⟨fx3, fy3, _, _⟩ := fp3.cells);
         (obtain ⟨fx4, fy4, _, _⟩ := fp4.cells);
         (obtain ⟨fx5, fy5, _, _⟩ := fp5.cells))
    | (go_at_call 11;
         (first
           | (with_reducible refine Calls.mono (fAdd_v (z := low x) _ (by first | exact HS.out.g | exact HS.out.drew.g | exact (HS.out.drewN _).g) (Hf.arg (by decide)) Val.zero (addP_zero)) ?_));
         (rintro e WX ⟨rfl, hB1⟩);
         (have HS2 : StL w WX [(b12, (cS (low x).1), (cD (low x).2)), (b10, ⟨#[49]⟩, ⟨#[]⟩), (b8, (cS (powP (low x) (i + k)).1), (cD (powP (low x) (i + k)).2)), (b6, (cS (powP (low x) k).1), (cD (powP (low x) k).2)), (b4, (cS (powP (low x) i).1), (cD (powP (low x) i).2)), (w.heap.size, fn, fd)] := (by first | exact HS.out.next hB1 | exact HS.out.next1 hB1 | exact HS.out.nextD hB1));
         (replace HS := Lib.hid HS2);
         (clear hB1 HS2);
         (obtain ⟨fp0, fp1, fp2, fp3, fp4, fp5, _⟩ := HS.out.box);
         (obtain ⟨fx0, fy0, _, _⟩ := fp0.cells);
         (obtain ⟨fx1, fy1, _, _⟩ := fp1.cells);
         (obtain ⟨fx2, fy2, _, _⟩ := fp2.cells);
         (obtain ⟨fx3, fy3, _, _⟩ := fp3.cells);
         (obtain ⟨fx4, fy4, _, _⟩ := fp4.cells);
         (obtain ⟨fx5, fy5, _, _⟩ := fp5.cells))
    | (go_at_call 10;
         (first
           | (with_reducible refine Calls.mono (fawake_any _ (by first | exact HS.out.g | exact HS.out.drew.g | exact (HS.out.drewN _).g)) ?_));
         (rintro e WX ⟨rfl, hB1⟩);
         (have HS2 : StL w WX [(b12, (cS (low x).1), (cD (low x).2)), (b10, ⟨#[49]⟩, ⟨#[]⟩), (b8, (cS (powP (low x) (i + k)).1), (cD (powP (low x) (i + k)).2)), (b6, (cS (powP (low x) k).1), (cD (powP (low x) k).2)), (b4, (cS (powP (low x) i).1), (cD (powP (low x) i).2)), (w.heap.size, fn, fd)] := (by first | exact HS.out.next hB1 | exact HS.out.next1 hB1 | exact HS.out.nextD hB1));
         (replace HS := Lib.hid HS2);
         (clear hB1 HS2);
         (obtain ⟨fp0, fp1, fp2, fp3, fp4, fp5, _⟩ := HS.out.box);
         (obtain ⟨fx0, fy0, _, _⟩ := fp0.cells);
         (obtain ⟨fx1, fy1, _, _⟩ := fp1.cells);
         (obtain ⟨fx2, fy2, _, _⟩ := fp2.cells);
         (obtain ⟨fx3, fy3, _, _⟩ := fp3.cells);
         (obtain ⟨fx4, fy4, _, _⟩ := fp4.cells);
         (obtain ⟨fx5, fy5, _, _⟩ := fp5.cells)))
    all_goals go_wp2_with fail
    all_goals go_meet
    all_goals exact ⟨rfl, (by first | exact HS.out | exact HS.out.drew | exact HS.out.drewN _)⟩
  clear HS
  clear fp0 fx0 fy0 fp1 fx1 fy1 fp2 fx2 fy2 fp3 fx3 fy3 fp4 fx4 fy4 fp5 fx5 fy5
  obtain ⟨rfl, hS⟩ := hcut
  obtain ⟨w13, hw⟩ : ∃ W, W = wc := ⟨_, rfl⟩
  rw [← hw] at hS
  rw [← hw]
  clear hw
  go_wp2_with fail
  go_ret
  exact ⟨rfl, hS.below⟩

set_option maxRecDepth 100000 in
set_option maxHeartbeats 16000000 in
theorem fpowers_long (fn fd : ByteArray) (m n : Int) (w : World) (hG : Ground w) (hl : flong 13 [(fn, fd)] = true) :
    Calls Tryd.prog 7 #[.agg #[.string fn, .string fd], .int .i8 m, .int .i8 n] w fun e w' => e = .returned (.bool true) ∧ Below w.heap.size w w' := by
  have HL := Lib.hid hl
  clear hl
  obtain ⟨W0, hW0⟩ : ∃ W0, W0 = w.alloc (.cells #[.string fn, .string fd] 24) := ⟨_, rfl⟩
  have hS : StL w W0 [(w.heap.size, fn, fd)] := by rw [hW0]; exact StL.one hG _ _
  go_enter Tryd.func7, Tryd.ntmps7
  go_upto_region 1 with fail
  rw [← hW0]
  clear hW0
  obtain ⟨fp0, _⟩ := hS.box
  obtain ⟨fx0, fy0, _, _⟩ := fp0.cells
  go_wp2_with fail
  obtain ⟨W1, hW1⟩ : ∃ W1, W1 = W0.alloc (.cells #[.string fn, .string fd] 24) := ⟨_, rfl⟩
  have hc0 : ∀ i, i < 1 → W1.cell? ⟨W0.heap.size, i * 2, none⟩ = some (.string ([(fn, fd)].getD i (⟨#[]⟩, ⟨#[]⟩)).1) ∧ W1.cell? ⟨W0.heap.size, i * 2 + 1, none⟩ = some (.string ([(fn, fd)].getD i (⟨#[]⟩, ⟨#[]⟩)).2) := by rw [hW1]; exact fgreat_cells W0 [(fn, fd)]
  have hS1 : StL w W1 [(w.heap.size, fn, fd)] := by rw [hW1]; exact hS.other _
  rw [← hW1]
  clear fp0 fx0 fy0
  clear hW1 hS
  have hS := hS1
  clear hS1
  refine (rLong_any W1 W0.heap.size 1 [(fn, fd)] rfl (by decide) hc0).mono ?_
  rintro _ _ ⟨rfl, rfl⟩
  clear hc0
  rw [HL.out]
  obtain ⟨fp0, _⟩ := hS.box
  obtain ⟨fx0, fy0, _, _⟩ := fp0.cells
  go_wp2_with fail
  clear fp0 fx0 fy0
  refine Calls.mono (fawake_any _ hS.g) ?_
  rintro _ w1 ⟨rfl, hB⟩
  replace hS := hS.next hB
  clear hB
  obtain ⟨fp0, _⟩ := hS.box
  obtain ⟨fx0, fy0, _, _⟩ := fp0.cells
  go_wp2_with fail
  go_ret
  exact ⟨rfl, hS.below⟩

theorem fpowers_any (fn fd : ByteArray) (m n : Int) (w : World) (hG : Ground w) (hm0 : -128 ≤ m) (hm1 : m ≤ 127) (hn0 : -128 ≤ n) (hn1 : n ≤ 127) :
    Calls Tryd.prog 7 #[.agg #[.string fn, .string fd], .int .i8 m, .int .i8 n] w fun e w' => e = .returned (.bool true) ∧ Below w.heap.size w w' := by
  by_cases hf : fn.size ≤ 13 ∧ fd.size ≤ 13
  · by_cases h0 : (raw fn fd).1 = 0
    · by_cases hi : m.tmod 9 < 0
      · exact fpowers_a1 fn fd m n w hG hm0 hm1 hn0 hn1 hf.1 hf.2 h0 hi trivial
      · by_cases hk : n.tmod 9 < 0
        · exact fpowers_a2 fn fd m n w hG hm0 hm1 hn0 hn1 hf.1 hf.2 h0 hi hk
        · exact fpowers_b2 fn fd m n w hG hm0 hm1 hn0 hn1 hf.1 hf.2 h0 hi hk
    · exact fpowers_b1 fn fd m n w hG hm0 hm1 hn0 hn1 hf.1 hf.2 h0 trivial trivial
  · exact fpowers_long fn fd m n w hG (flong_true (f := (fn, fd)) (by simp) (by show 13 < fn.size ∨ 13 < fd.size; omega))

end Go.Proofs.YtldohkfomdcpoaaDoor
