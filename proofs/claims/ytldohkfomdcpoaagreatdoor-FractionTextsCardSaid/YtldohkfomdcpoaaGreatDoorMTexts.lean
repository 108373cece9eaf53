/- The reference implementation of layer 2: Print, Power: the walks. -/
import Derived.Test.YtldohkfomdcpoaaGreatDoorME
import Derived.Deep.DeepCutAuto
import Derived.Laws.NewBlocks
namespace Go.Proofs.YtldohkfomdcpoaaGreatDoor
open Go.RowKit Fra

set_option maxRecDepth 100000 in
set_option maxHeartbeats 2000000 in
theorem qPrint_any (n d : ByteArray) (w : World) (hG : Ground w) (hn : n.size ≤ 850) (hd : d.size ≤ 850) :
    Calls Tryz.prog 36 #[.agg #[.string n, .string d]] w fun r w' => r = .returned (.string (textP (low (raw n d)))) ∧ Below w.heap.size w w' := by
  have hcp := CapP.low (CapP.of_raw (k := 850) (by decide) hn hd) (raw_pos n d)
  obtain ⟨p, hp⟩ : ∃ p, low (raw n d) = p := ⟨_, rfl⟩
  rw [hp] at hcp ⊢
  have HPP := Lib.hid hp
  have t1 := pS_size hcp.1
  have t2 := pS_size hcp.2
  have s1 : (cS p.1).size ≤ 4294967296 := rsz hcp.1 (by decide)
  have s2 : (cS p.2).size ≤ 4294967296 := rsz hcp.2 (by decide)
  have HS1 := Lib.hid s1
  have HS2 := Lib.hid s2
  clear hp hcp s1 s2
  obtain ⟨W0, hW0⟩ : ∃ W0, W0 = w.alloc (.cells #[.string n, .string d] 24) := ⟨_, rfl⟩
  have hS : StX w W0 24 n d := by rw [hW0]; exact StX.made hG _ _ _
  obtain ⟨c, hc⟩ : ∃ c, cmp3 p.2 1 = c := ⟨_, rfl⟩
  have HC := Lib.hid hc
  by_cases h1 : p.2 = 1
  · have hcc : (c == 0) = true := by rw [← hc, h1]; rfl
    have HD := Lib.hid (show textP p = pS p.1 by unfold textP; rw [if_pos h1])
    clear h1 hc t1 t2
    go_enter Tryz.func36, Tryz.ntmps36
    go_wp2_with fail
    rw [← hW0]
    clear hW0
    refine (show Calls _ _ _ W0 (fun r w' => r = .returned (.tuple #[.string (cS p.1), .string (cS p.2)]) ∧ Below W0.heap.size W0 w') from by have := qParts_any n d W0 hS.g hn hd; rwa [HPP.out] at this).mono ?_
    rintro _ w1 ⟨rfl, hB⟩
    replace hS := hS.next hB
    clear hB
    go_wp2_with fail
    refine (qOne w1).mono ?_
    rintro _ _ ⟨rfl, rfl⟩
    go_wp2_with fail
    refine (qCmp (x := p.2) (y := 1) (z := c) w1 HS2.out (by decide) (vS_cS _) vS_one HC.out).mono ?_
    rintro _ _ ⟨rfl, rfl⟩
    go_wp2_with fail
    refine (show Calls _ _ _ w1 (fun e w' => e = .returned (.string (pS p.1)) ∧ w1 = w') from by have := rPrint_any (cS p.1) w1 HS1.out; rwa [vS_cS] at this).mono ?_
    rintro _ _ ⟨rfl, rfl⟩
    go_wp2_with fail
    go_ret
    exact ⟨by rw [HD.out]; rfl, hS.below⟩
  · have hcc : (c == 0) = false := by
      have : c ≠ 0 := by rw [← hc]; intro e; exact h1 ((cmp3_zero _ _).1 e)
      simpa using this
    have HD := Lib.hid (show textP p = pS p.1 ++ ⟨#[47]⟩ ++ pS p.2 by unfold textP; rw [if_neg h1])
    obtain ⟨u, hu⟩ : ∃ u, u = pS p.1 := ⟨_, rfl⟩
    obtain ⟨v, hv⟩ : ∃ v, v = pS p.2 := ⟨_, rfl⟩
    rw [← hu] at t1
    rw [← hv] at t2
    have HU := Lib.hid hu
    have HV := Lib.hid hv
    have b1 : ¬ 9223372036854775807 < u.size + 1 := by omega
    have b2 : ¬ 9223372036854775807 < u.size + 1 + v.size := by omega
    clear h1 hc t1 t2 hu hv
    go_enter Tryz.func36, Tryz.ntmps36
    go_wp2_with fail
    rw [← hW0]
    clear hW0
    refine (show Calls _ _ _ W0 (fun r w' => r = .returned (.tuple #[.string (cS p.1), .string (cS p.2)]) ∧ Below W0.heap.size W0 w') from by have := qParts_any n d W0 hS.g hn hd; rwa [HPP.out] at this).mono ?_
    rintro _ w1 ⟨rfl, hB⟩
    replace hS := hS.next hB
    clear hB
    go_wp2_with fail
    refine (qOne w1).mono ?_
    rintro _ _ ⟨rfl, rfl⟩
    go_wp2_with fail
    refine (qCmp (x := p.2) (y := 1) (z := c) w1 HS2.out (by decide) (vS_cS _) vS_one HC.out).mono ?_
    rintro _ _ ⟨rfl, rfl⟩
    go_wp2_with fail
    refine (show Calls _ _ _ w1 (fun e w' => e = .returned (.string u) ∧ w1 = w') from by have := rPrint_any (cS p.1) w1 HS1.out; rwa [vS_cS, ← HU.out] at this).mono ?_
    rintro _ _ ⟨rfl, rfl⟩
    go_wp2_with fail
    refine (show Calls _ _ _ w1 (fun e w' => e = .returned (.string v) ∧ w1 = w') from by have := rPrint_any (cS p.2) w1 HS2.out; rwa [vS_cS, ← HV.out] at this).mono ?_
    rintro _ _ ⟨rfl, rfl⟩
    go_wp2_with fail
    go_ret
    exact ⟨by rw [HD.out, ← HU.out, ← HV.out]; rfl, hS.below⟩

theorem qPower_range (n d : ByteArray) (k : Int) (w : World) (hk : k < -400 ∨ 400 < k) :
    Calls Tryz.prog 32 #[.agg #[.string n, .string d], .int .i64 k] w fun r w' => r = .returned (.tuple #[.agg #[.string ⟨#[]⟩, .string ⟨#[]⟩], .int .i64 2]) ∧ Below w.heap.size w w' := by
  by_cases h : k < -400
  · clear hk
    go_enter Tryz.func32, Tryz.ntmps32
    go_wp2_with fail
    exact bodyPost_ret (v := .tuple #[.agg #[.string ⟨#[]⟩, .string ⟨#[]⟩], .int .i64 2]) (by simp [results, Tryz.results32, go_sem]) rfl ⟨rfl, below_two _ _ _⟩
  · have h2 : 400 < k := by omega
    clear hk
    go_enter Tryz.func32, Tryz.ntmps32
    go_wp2_with fail
    exact bodyPost_ret (v := .tuple #[.agg #[.string ⟨#[]⟩, .string ⟨#[]⟩], .int .i64 2]) (by simp [results, Tryz.results32, go_sem]) rfl ⟨rfl, below_two _ _ _⟩

end Go.Proofs.YtldohkfomdcpoaaGreatDoor

/- The reference implementation of layer 2: Power: the walk. -/
namespace Go.Proofs.YtldohkfomdcpoaaGreatDoor
open Go.RowKit Fra

theorem Cap.pow {k : Nat} {x : Int} (h : Cap k x) (m : Nat) : Cap (k * m + 1) (x ^ m) := by
  unfold Cap at *
  rw [Int.natAbs_pow, Nat.pow_succ, Nat.pow_mul]
  have h1 : x.natAbs ^ m ≤ (10 ^ k) ^ m := Nat.pow_le_pow_left (Nat.le_of_lt h) m
  have h2 : 0 < (10 ^ k) ^ m := Nat.pow_pos (Nat.pow_pos (by decide))
  omega
theorem powsz {x : Int} (h : Cap 13 x) {m : Nat} (hm : m ≤ 12) : (cS (x ^ m)).size ≤ 850 := rsz (h.pow m) (by omega)

set_option maxRecDepth 100000 in
set_option maxHeartbeats 4000000 in
theorem qPower_pos (n d : ByteArray) (N : Nat) (w : World) (hG : Ground w) (hn : n.size ≤ 13) (hd : d.size ≤ 13) (hN : N ≤ 12) (p : Int × Int) (hp : low (raw n d) = p) :
    Calls Tryz.prog 32 #[.agg #[.string n, .string d], .int .i64 (N : Int)] w fun r w' => r = .returned (.tuple #[.agg #[.string (cS (redS (p.1 ^ N) (p.2 ^ N)).1), .string (cD (redS (p.1 ^ N) (p.2 ^ N)).2)], .int .i64 0]) ∧ Below w.heap.size w w' := by
  have hcp := CapP.low (CapP.of_raw (k := 13) (by decide) hn hd) (raw_pos n d)
  have hpp := low_pos (raw_pos n d)
  rw [hp] at hcp hpp
  have HPP := Lib.hid hp
  have HCP := Lib.hid hcp
  have hk0 : ¬ (N : Int) < 0 := by omega
  have hk1 : ¬ (N : Int) < -400 := by omega
  have hk2 : ¬ (400 : Int) < (N : Int) := by omega
  have HNE := Lib.hid (pow_ne (show p.2 ≠ 0 by omega) N)
  clear hp hcp hpp
  obtain ⟨W0, hW0⟩ : ∃ W0, W0 = (w.alloc (.cells #[.string n, .string d] 24)).alloc (.cells #[.string ⟨#[]⟩, .string ⟨#[]⟩] 24) := ⟨_, rfl⟩
  have hS : St1 w W0 24 24 n d := by rw [hW0]; exact St1.made hG _ _ _ _
  go_enter Tryz.func32, Tryz.ntmps32
  go_upto_region 1 with fail
  rw [← hW0]
  clear hW0
  obtain ⟨c0, c1, _, _⟩ := hS.x.cells
  go_wp2_with fail
  refine (show Calls _ _ _ W0 (fun r w' => r = .returned (.tuple #[.string (cS p.1), .string (cS p.2)]) ∧ Below W0.heap.size W0 w') from by have := qParts_any n d W0 hS.g (by omega) (by omega); rwa [HPP.out] at this).mono ?_
  rintro _ w1 ⟨rfl, hB⟩
  replace hS := hS.next hB
  clear hB c0 c1
  go_upto_if 24 with fail
  go_cut [1, 6, 7] (fun s1 s6 s7 wx => s1 = .int .i64 (N : Int) ∧ s6 = .string (cS p.1) ∧ s7 = .string (cS p.2) ∧ St1 w wx 24 24 n d)
  case first =>
    go_wp2_with fail
    go_meet
    exact ⟨rfl, rfl, rfl, hS⟩
  clear hS
  obtain ⟨rfl, rfl, rfl, hS⟩ := hcut
  go_wp2_with fail
  refine (qOne wc).mono ?_
  rintro _ _ ⟨rfl, rfl⟩
  go_wp2_with fail
  refine (qOne wc).mono ?_
  rintro _ _ ⟨rfl, rfl⟩
  go_wp2_with fail
  go_loopw [8, 9, 10] (fun cv dv iv wr => ∃ k : Nat, k ≤ N ∧ iv = .int .i64 (k : Int) ∧ cv = .string (cS (p.1 ^ k)) ∧ dv = .string (cS (p.2 ^ k)) ∧ St1 w wr 24 24 n d) (fun _ _ iv _ => N - (intOf iv).toNat)
  case atStart => exact ⟨0, Nat.zero_le _, rfl, by rw [Int.pow_zero, cS_one], by rw [Int.pow_zero, cS_one], hS⟩
  case round =>
    clear hS
    obtain ⟨k, hk, rfl, rfl, rfl, hS⟩ := hrel
    by_cases hlt : k < N
    · have HK1 := Lib.hid (Nat.le_trans (powsz HCP.out.1 (show k ≤ 12 by omega)) (show 850 ≤ 1000 by decide))
      have HK2 := Lib.hid (Nat.le_trans (powsz HCP.out.2 (show k ≤ 12 by omega)) (show 850 ≤ 1000 by decide))
      have HA1 := Lib.hid (show (cS p.1).size ≤ 1000 from rsz HCP.out.1 (by decide))
      have HA2 := Lib.hid (show (cS p.2).size ≤ 1000 from rsz HCP.out.2 (by decide))
      go_wp2_with fail
      refine (qMul (x := p.1 ^ k) (y := p.1) (z := p.1 ^ (k + 1)) wr HK1.out HA1.out (vS_cS _) (vS_cS _) (Int.pow_succ _ _).symm).mono ?_
      rintro _ w3 ⟨rfl, hB⟩
      replace hS := hS.next hB
      clear hB
      go_wp2_with fail
      refine (qMul (x := p.2 ^ k) (y := p.2) (z := p.2 ^ (k + 1)) w3 HK2.out HA2.out (vS_cS _) (vS_cS _) (Int.pow_succ _ _).symm).mono ?_
      rintro _ w4 ⟨rfl, hB⟩
      replace hS := hS.next hB
      clear hB
      go_wp2_with fail
      go_roundw
      case rel => exact ⟨k + 1, by omega, by simp, rfl, rfl, hS⟩
      case measure => simp [intOf]; omega
    · obtain rfl : k = N := by omega
      go_wp2_with fail
      refine (qNew_any wr hS.g (powsz HCP.out.1 hN) (powsz HCP.out.2 hN) (vS_cS _) (vS_cS _) HNE.out).mono ?_
      rintro _ w3 ⟨rfl, hB⟩
      replace hS := hS.next hB
      clear hB
      obtain ⟨r0, r1, r2, r3⟩ := hS.r.cells
      go_wp2_with fail
      obtain ⟨k0, k1, _, _⟩ := (hS.r.put (cS (redS (p.1 ^ k) (p.2 ^ k)).1) (cD (redS (p.1 ^ k) (p.2 ^ k)).2)).cells
      exact bodyPost_ret (v := .tuple #[.agg #[.string (cS (redS (p.1 ^ k) (p.2 ^ k)).1), .string (cD (redS (p.1 ^ k) (p.2 ^ k)).2)], .int .i64 0]) (by simp [results, Tryz.results32, go_sem, k0, k1]) rfl ⟨rfl, below_put hS.below (by omega) _ _⟩

set_option maxRecDepth 100000 in
set_option maxHeartbeats 4000000 in
theorem qPower_neg (n d : ByteArray) (N : Nat) (w : World) (hG : Ground w) (hn : n.size ≤ 13) (hd : d.size ≤ 13) (hN1 : 1 ≤ N) (hN : N ≤ 12) (p : Int × Int) (hp : low (raw n d) = p) (h0 : p.1 ≠ 0) :
    Calls Tryz.prog 32 #[.agg #[.string n, .string d], .int .i64 (-(N : Int))] w fun r w' => r = .returned (.tuple #[.agg #[.string (cS (redS (p.2 ^ N) (p.1 ^ N)).1), .string (cD (redS (p.2 ^ N) (p.1 ^ N)).2)], .int .i64 0]) ∧ Below w.heap.size w w' := by
  have hcp := CapP.low (CapP.of_raw (k := 13) (by decide) hn hd) (raw_pos n d)
  have hpp := low_pos (raw_pos n d)
  rw [hp] at hcp hpp
  have HPP := Lib.hid hp
  have HCP := Lib.hid hcp
  obtain ⟨m, hm⟩ : ∃ m, m = -(N : Int) := ⟨_, rfl⟩
  have HM := Lib.hid (show -m = (N : Int) by omega)
  have hm0 : m < 0 := by omega
  have hm1 : ¬ m < -400 := by omega
  have hm2 : ¬ 400 < m := by omega
  have hw : IntKind.i64.wrap (-m) = -m := IntWalk.i64_in _ (by omega)
  rw [← hm]
  have HZ := Lib.hid (decide_eq_false h0)
  have HNE := Lib.hid (pow_ne h0 N)
  have HS1 := Lib.hid (show (cS p.1).size ≤ 4294967296 from rsz hcp.1 (by decide))
  clear hm hN1 h0
  clear hp hcp hpp
  obtain ⟨W0, hW0⟩ : ∃ W0, W0 = (w.alloc (.cells #[.string n, .string d] 24)).alloc (.cells #[.string ⟨#[]⟩, .string ⟨#[]⟩] 24) := ⟨_, rfl⟩
  have hS : St1 w W0 24 24 n d := by rw [hW0]; exact St1.made hG _ _ _ _
  go_enter Tryz.func32, Tryz.ntmps32
  go_upto_region 1 with fail
  rw [← hW0]
  clear hW0
  obtain ⟨c0, c1, _, _⟩ := hS.x.cells
  go_wp2_with fail
  refine (show Calls _ _ _ W0 (fun r w' => r = .returned (.tuple #[.string (cS p.1), .string (cS p.2)]) ∧ Below W0.heap.size W0 w') from by have := qParts_any n d W0 hS.g (by omega) (by omega); rwa [HPP.out] at this).mono ?_
  rintro _ w1 ⟨rfl, hB⟩
  replace hS := hS.next hB
  clear hB c0 c1
  go_upto_if 24 with fail
  go_cut [1, 6, 7] (fun s1 s6 s7 wx => s1 = .int .i64 (N : Int) ∧ s6 = .string (cS p.2) ∧ s7 = .string (cS p.1) ∧ St1 w wx 24 24 n d)
  case first =>
    go_wp2_with fail
    refine (qZero (x := p.1) w1 HS1.out (vS_cS _)).mono ?_
    rintro _ _ ⟨rfl, rfl⟩
    rw [HZ.out]
    go_wp2_with fail
    go_meet
    exact ⟨by rw [HM.out], rfl, rfl, hS⟩
  clear hS
  obtain ⟨rfl, rfl, rfl, hS⟩ := hcut
  go_wp2_with fail
  refine (qOne wc).mono ?_
  rintro _ _ ⟨rfl, rfl⟩
  go_wp2_with fail
  refine (qOne wc).mono ?_
  rintro _ _ ⟨rfl, rfl⟩
  go_wp2_with fail
  go_loopw [8, 9, 10] (fun cv dv iv wr => ∃ k : Nat, k ≤ N ∧ iv = .int .i64 (k : Int) ∧ cv = .string (cS (p.2 ^ k)) ∧ dv = .string (cS (p.1 ^ k)) ∧ St1 w wr 24 24 n d) (fun _ _ iv _ => N - (intOf iv).toNat)
  case atStart => exact ⟨0, Nat.zero_le _, rfl, by rw [Int.pow_zero, cS_one], by rw [Int.pow_zero, cS_one], hS⟩
  case round =>
    clear hS
    obtain ⟨k, hk, rfl, rfl, rfl, hS⟩ := hrel
    by_cases hlt : k < N
    · have HK1 := Lib.hid (Nat.le_trans (powsz HCP.out.2 (show k ≤ 12 by omega)) (show 850 ≤ 1000 by decide))
      have HK2 := Lib.hid (Nat.le_trans (powsz HCP.out.1 (show k ≤ 12 by omega)) (show 850 ≤ 1000 by decide))
      have HA1 := Lib.hid (show (cS p.2).size ≤ 1000 from rsz HCP.out.2 (by decide))
      have HA2 := Lib.hid (show (cS p.1).size ≤ 1000 from rsz HCP.out.1 (by decide))
      go_wp2_with fail
      refine (qMul (x := p.2 ^ k) (y := p.2) (z := p.2 ^ (k + 1)) wr HK1.out HA1.out (vS_cS _) (vS_cS _) (Int.pow_succ _ _).symm).mono ?_
      rintro _ w3 ⟨rfl, hB⟩
      replace hS := hS.next hB
      clear hB
      go_wp2_with fail
      refine (qMul (x := p.1 ^ k) (y := p.1) (z := p.1 ^ (k + 1)) w3 HK2.out HA2.out (vS_cS _) (vS_cS _) (Int.pow_succ _ _).symm).mono ?_
      rintro _ w4 ⟨rfl, hB⟩
      replace hS := hS.next hB
      clear hB
      go_wp2_with fail
      go_roundw
      case rel => exact ⟨k + 1, by omega, by simp, rfl, rfl, hS⟩
      case measure => simp [intOf]; omega
    · obtain rfl : k = N := by omega
      go_wp2_with fail
      refine (qNew_any wr hS.g (powsz HCP.out.2 hN) (powsz HCP.out.1 hN) (vS_cS _) (vS_cS _) HNE.out).mono ?_
      rintro _ w3 ⟨rfl, hB⟩
      replace hS := hS.next hB
      clear hB
      obtain ⟨r0, r1, r2, r3⟩ := hS.r.cells
      go_wp2_with fail
      obtain ⟨k0, k1, _, _⟩ := (hS.r.put (cS (redS (p.2 ^ k) (p.1 ^ k)).1) (cD (redS (p.2 ^ k) (p.1 ^ k)).2)).cells
      exact bodyPost_ret (v := .tuple #[.agg #[.string (cS (redS (p.2 ^ k) (p.1 ^ k)).1), .string (cD (redS (p.2 ^ k) (p.1 ^ k)).2)], .int .i64 0]) (by simp [results, Tryz.results32, go_sem, k0, k1]) rfl ⟨rfl, below_put hS.below (by omega) _ _⟩

set_option maxRecDepth 100000 in
set_option maxHeartbeats 4000000 in
theorem qPower_neg_zero (n d : ByteArray) (m : Int) (w : World) (hG : Ground w) (hn : n.size ≤ 13) (hd : d.size ≤ 13) (hm0 : m < 0) (hm3 : -400 ≤ m) (p : Int × Int) (hp : low (raw n d) = p) (h0 : p.1 = 0) :
    Calls Tryz.prog 32 #[.agg #[.string n, .string d], .int .i64 m] w fun r w' => r = .returned (.tuple #[.agg #[.string ⟨#[]⟩, .string ⟨#[]⟩], .int .i64 10]) ∧ Below w.heap.size w w' := by
  have hcp := CapP.low (CapP.of_raw (k := 13) (by decide) hn hd) (raw_pos n d)
  rw [hp] at hcp
  have HPP := Lib.hid hp
  have hm1 : ¬ m < -400 := by omega
  have hm2 : ¬ 400 < m := by omega
  have HZ := Lib.hid (decide_eq_true h0)
  have HS1 := Lib.hid (show (cS p.1).size ≤ 4294967296 from rsz hcp.1 (by decide))
  clear hp hcp h0
  obtain ⟨W0, hW0⟩ : ∃ W0, W0 = (w.alloc (.cells #[.string n, .string d] 24)).alloc (.cells #[.string ⟨#[]⟩, .string ⟨#[]⟩] 24) := ⟨_, rfl⟩
  have hS : St1 w W0 24 24 n d := by rw [hW0]; exact St1.made hG _ _ _ _
  go_enter Tryz.func32, Tryz.ntmps32
  go_upto_region 1 with fail
  rw [← hW0]
  clear hW0
  obtain ⟨c0, c1, _, _⟩ := hS.x.cells
  go_wp2_with fail
  refine (show Calls _ _ _ W0 (fun r w' => r = .returned (.tuple #[.string (cS p.1), .string (cS p.2)]) ∧ Below W0.heap.size W0 w') from by have := qParts_any n d W0 hS.g (by omega) (by omega); rwa [HPP.out] at this).mono ?_
  rintro _ w1 ⟨rfl, hB⟩
  replace hS := hS.next hB
  clear hB c0 c1
  go_wp2_with fail
  refine (qZero (x := p.1) w1 HS1.out (vS_cS _)).mono ?_
  rintro _ _ ⟨rfl, rfl⟩
  rw [HZ.out]
  obtain ⟨r0, r1, r2, r3⟩ := hS.r.cells
  go_wp2_with fail
  obtain ⟨k0, k1, _, _⟩ := (hS.r.put ⟨#[]⟩ ⟨#[]⟩).cells
  exact bodyPost_ret (v := .tuple #[.agg #[.string ⟨#[]⟩, .string ⟨#[]⟩], .int .i64 10]) (by simp [results, Tryz.results32, go_sem, k0, k1]) rfl ⟨rfl, below_put hS.below (by omega) _ _⟩

theorem powP_pos {p : Int × Int} (N : Nat) : powP p N = redS (p.1 ^ N) (p.2 ^ N) := by
  unfold powP powU
  rw [if_pos (by omega)]; rfl
theorem powP_minus {p : Int × Int} {N : Nat} (hN : 1 ≤ N) : powP p (-(N : Int)) = redS (p.2 ^ N) (p.1 ^ N) := by
  unfold powP powU
  rw [if_neg (by omega)]
  simp only [Int.neg_neg, Int.toNat_natCast]

theorem power_both (n d : ByteArray) (c : Int) (hn : n.size ≤ 13) (hd : d.size ≤ 13) (hc : -12 ≤ c ∧ c ≤ 12 ∨ c < -400 ∨ 400 < c) :
    ∃ u v e, Ret 31 #[.agg #[.string n, .string d], .int .i64 c] (.tuple #[.agg #[.string u, .string v], .int .i64 e]) ∧ Ret 32 #[.agg #[.string n, .string d], .int .i64 c] (.tuple #[.agg #[.string u, .string v], .int .i64 e]) := by
  rcases hc with ⟨h1, h2⟩ | hr
  · have hV : Val n d (raw n d) := ⟨rfl, by omega, by omega⟩
    have hx := raw_pos n d
    by_cases hc0 : 0 ≤ c
    · obtain ⟨N, rfl⟩ : ∃ N : Nat, c = N := ⟨c.toNat, by omega⟩
      refine ⟨_, _, 0, fun W hG => fPower_v W hG hV (by omega) (by omega) (.inr hc0) rfl, fun W hG => ?_⟩
      rw [powP_pos]
      exact qPower_pos n d N W hG hn hd (by omega) _ rfl
    · by_cases h0 : (raw n d).1 = 0
      · have hl0 : (low (raw n d)).1 = 0 := by
          have := low_cross (raw n d)
          rw [h0, Int.zero_mul] at this
          rcases Int.mul_eq_zero.1 this with h | h
          · exact h
          · omega
        exact ⟨⟨#[]⟩, ⟨#[]⟩, 10, fun W hG => fPower_z W hG hV (by omega) (by omega) h0, fun W hG => qPower_neg_zero n d c W hG hn hd (by omega) (by omega) _ rfl hl0⟩
      · obtain ⟨N, hN⟩ : ∃ N : Nat, c = -(N : Int) := ⟨(-c).toNat, by omega⟩
        subst hN
        have hl0 : (low (raw n d)).1 ≠ 0 := by
          intro e
          have := low_cross (raw n d)
          rw [e, Int.zero_mul] at this
          rcases Int.mul_eq_zero.1 this.symm with h | h
          · exact h0 h
          · have := low_pos hx; omega
        refine ⟨_, _, 0, fun W hG => fPower_v W hG hV (by omega) (by omega) (.inl h0) rfl, fun W hG => ?_⟩
        rw [powP_minus (by omega)]
        exact qPower_neg n d N W hG hn hd (by omega) (by omega) _ rfl hl0
  · exact ⟨⟨#[]⟩, ⟨#[]⟩, 2, fun W _ => fPower_range n d c W hr, fun W _ => qPower_range n d c W hr⟩

theorem print_both (n d : ByteArray) (hn : n.size ≤ 60) (hd : d.size ≤ 60) : ∃ s, Ret 35 #[.agg #[.string n, .string d]] (.string s) ∧ Ret 36 #[.agg #[.string n, .string d]] (.string s) :=
  ⟨_, fun W hG => fPrint_any n d W hG (by omega) (by omega), fun W hG => qPrint_any n d W hG (by omega) (by omega)⟩

end Go.Proofs.YtldohkfomdcpoaaGreatDoor

/- The reference implementation of layer 2: Parse: the walk. -/
namespace Go.Proofs.YtldohkfomdcpoaaGreatDoor
open Go.RowKit Fra

theorem slash_step {l : List UInt8} {k : Nat} (h : k < l.length) : slash (l.drop k) = if l[k]'h = 47 then 0 else slash (l.drop (k + 1)) + 1 := by
  rw [List.drop_eq_getElem_cons h]
  split
  · rename_i e; rw [e]; simp [slash]
  · rename_i e
    unfold slash
    rw [List.takeWhile_cons_of_pos (by simpa using e)]; rfl
theorem numS_ext (s : ByteArray) : numS s = s.extract 0 (slash s.data.toList) := by
  unfold numS
  apply ByteArray.ext
  rw [ByteArray.data_extract]
  apply Array.ext'
  simp
theorem denS_ext (s : ByteArray) : denS s = s.extract (slash s.data.toList + 1) s.size := by
  unfold denS
  apply ByteArray.ext
  rw [ByteArray.data_extract]
  apply Array.ext'
  simp
  rw [List.take_of_length_le (by rw [List.length_drop, size_toList]; exact Nat.le_refl _)]
theorem slash_size (s : ByteArray) : slash s.data.toList ≤ s.size := by have := slash_le s.data.toList; rwa [size_toList] at this
/-- a text whose number has this text is that number's -/
theorem not_good {s : ByteArray} {f : Int × Int} (hb : textP (parseV s) ≠ s) (hf : Low f) : textP f ≠ s := by
  intro e
  apply hb
  rw [← e, parseV_text hf]
theorem text_is {s : ByteArray} (h : isText s = true) : pS (vS s) = s := by unfold isText at h; simpa using h
theorem numS_whole {s : ByteArray} (hl : slash s.data.toList = s.size) : numS s = s := by
  unfold numS
  rw [hl, ← size_toList, List.take_length]
theorem good_one {s : ByteArray} (hl : slash s.data.toList = s.size) (h : isText (numS s) = true) : textP (parseV s) = s := by
  have e : numS s = s := by
    unfold numS
    rw [hl, ← size_toList, List.take_length]
  rw [e] at h
  have hs := text_is h
  have : textP (vS s, 1) = s := by unfold textP; rw [if_pos rfl]; exact hs
  rw [← this, parseV_text ⟨Int.one_pos, by simp⟩]
/-- what a good text is made of -/
theorem good_parts {s : ByteArray} (hg : textP (parseV s) = s) : isText (numS s) = true ∧ vS (numS s) = (parseV s).1 ∧
    ((slash s.data.toList = s.size ∧ (parseV s).2 = 1) ∨ (slash s.data.toList < s.size ∧ isText (denS s) = true ∧ vS (denS s) = (parseV s).2)) := by
  have h1 : numS s = pS (parseV s).1 := by have := numS_text (parseV s); rwa [hg] at this
  have h2 := denS_text (parseV s)
  rw [hg] at h2
  refine ⟨by rw [h1]; exact isText_pS _, by rw [h1, vS_pS], ?_⟩
  have hl := textP_list (parseV s)
  rw [hg] at hl
  by_cases h : (parseV s).2 = 1
  · left
    rw [if_pos h] at hl
    refine ⟨?_, h⟩
    rw [hl, slash_none (itoa_slash _), ← hl, size_toList]
  · right
    rw [if_neg h] at hl h2
    refine ⟨?_, by rw [h2]; exact isText_pS _, by rw [h2, vS_pS]⟩
    rw [← size_toList, hl, slash_app (itoa_slash _)]
    simp

set_option maxRecDepth 100000 in
set_option maxHeartbeats 4000000 in
theorem qParse_b1 (s : ByteArray) (w : World) (hG : Ground w) (hs : s.size ≤ 130) (hlt : slash s.data.toList < s.size) (hdt : isText (denS s) = false) (hnt : isText (numS s) = true) :
    Calls Tryz.prog 34 #[.string s] w fun r w' => r = .returned (.tuple #[.agg #[.string ⟨#[]⟩, .string ⟨#[]⟩], .int .i64 3]) ∧ Below w.heap.size w w' := by
  have hsl := slash_size s
  obtain ⟨a, ha⟩ : ∃ a, slash s.data.toList = a := ⟨_, rfl⟩
  have hnx := numS_ext s
  have hdx := denS_ext s
  have hns := numS_size s
  have hds := denS_size s
  rw [ha] at hsl hnx hdx
  have HA := Lib.hid ha
  have HNX := Lib.hid hnx.symm
  have HDX := Lib.hid hdx.symm
  have HNS := Lib.hid (show (numS s).size ≤ 65536 by omega)
  have HDS := Lib.hid (show (denS s).size ≤ 65536 by omega)
  have hsz : ¬ (65536 : Int) < s.size := by omega
  have hwl : IntKind.i64.wrap ((s.size : Int) - 1) = (s.size : Int) - 1 := IntWalk.i64_in _ (by omega)
  clear hnx hdx hns hds
  rw [ha] at hlt
  have hlt0 : (a : Int) < s.size := by omega
  have hwa : IntKind.i64.wrap ((a : Int) + 1) = (a : Int) + 1 := IntWalk.i64_in _ (by omega)
  have HNT := Lib.hid hnt
  have HDT := Lib.hid hdt
  clear hnt hdt
  obtain ⟨W0, hW0⟩ : ∃ W0, W0 = w.alloc (.cells #[.string ⟨#[]⟩, .string ⟨#[]⟩] 24) := ⟨_, rfl⟩
  have hS : StL w W0 [(w.heap.size, ⟨#[]⟩, ⟨#[]⟩)] := by rw [hW0]; exact StL.one hG _ _
  go_enter Tryz.func34, Tryz.ntmps34
  go_wp2_with fail
  rw [← hW0]
  clear hW0
  go_loopw [4, 5] (fun av iv wr => ∃ t : Int, -1 ≤ t ∧ t < s.size ∧ iv = .int .i64 t ∧ av = .int .i64 (((t + 1).toNat + slash (s.data.toList.drop (t + 1).toNat) : Nat) : Int) ∧ W0 = wr) (fun _ iv _ => (intOf iv + 1).toNat)
  case atStart =>
    refine ⟨(s.size : Int) - 1, by omega, by omega, rfl, ?_, rfl⟩
    have e : ((s.size : Int) - 1 + 1).toNat = s.size := by omega
    rw [e, List.drop_eq_nil_of_le (by rw [size_toList]; exact Nat.le_refl _)]
    simp [slash]
  case round =>
    obtain ⟨t, ht1, ht2, rfl, rfl, rfl⟩ := hrel
    by_cases ht : 0 ≤ t
    · have hlt : t.toNat < s.size := by omega
      have hlt' : t.toNat < s.data.toList.length := by rw [size_toList]; exact hlt
      have hst := slash_step hlt'
      have hby := byte_at s t.toNat hlt hlt'
      have e1 : (t + 1).toNat = t.toNat + 1 := by omega
      have hwt : IntKind.i64.wrap (t - 1) = t - 1 := IntWalk.i64_in _ (by omega)
      obtain ⟨A1, hA1⟩ : ∃ A1, A1 = (t + 1).toNat + slash (s.data.toList.drop (t + 1).toNat) := ⟨_, rfl⟩
      rw [← hA1]
      by_cases hb : ((s[t.toNat]'hlt).toNat : Int) = 47
      · have hb8 : s.data.toList[t.toNat]'hlt' = 47 := by
          have : ((s.data.toList[t.toNat]'hlt').toNat : Int) = 47 := by rw [hby]; exact hb
          have h8 : (s.data.toList[t.toNat]'hlt').toNat = 47 := by omega
          exact UInt8.toNat_inj.1 (by rw [h8]; rfl)
        rw [if_pos hb8] at hst
        have HST := Lib.hid hst
        clear hst hby hb8 hlt' hA1
        go_wp2_with fail
        go_roundw
        case rel => exact ⟨t - 1, by omega, by omega, rfl, by rw [show (t - 1 + 1).toNat = t.toNat by omega, HST.out]; congr 1; omega, trivial⟩
        case measure => simp [intOf]; omega
      · have hb8 : ¬ s.data.toList[t.toNat]'hlt' = 47 := by
          intro e
          apply hb
          rw [← hby, e]; rfl
        rw [if_neg hb8] at hst
        have HST := Lib.hid hst
        have HA1 := Lib.hid hA1
        have HE1 := Lib.hid e1
        clear hst hby hb8 hlt' hA1 e1
        go_wp2_with fail
        go_roundw
        case rel => exact ⟨t - 1, by omega, by omega, rfl, by rw [show (t - 1 + 1).toNat = t.toNat by omega, HST.out, HA1.out, HE1.out]; congr 2; omega, trivial⟩
        case measure => simp [intOf]; omega
    · obtain rfl : t = -1 := by omega
      have e0 : (((-1 : Int) + 1).toNat + slash (s.data.toList.drop ((-1 : Int) + 1).toNat) : Nat) = a := by
        have : ((-1 : Int) + 1).toNat = 0 := by decide
        rw [this, List.drop_zero, HA.out]; omega
      rw [e0]
      clear e0
      obtain ⟨p0, _⟩ := hS.box
      obtain ⟨c0, c1, c2, c3⟩ := p0.cells
      go_wp2_with fail
      rw [HNX.out]
      refine (rParse_ok (numS s) W0 HNS.out HNT.out).mono ?_
      rintro _ _ ⟨rfl, rfl⟩
      go_wp2_with fail
      refine (qOne W0).mono ?_
      rintro _ _ ⟨rfl, rfl⟩
      go_wp2_with fail
      rw [HDX.out]
      refine (rParse_bad (denS s) W0 HDS.out HDT.out).mono ?_
      rintro _ _ ⟨rfl, rfl⟩
      go_wp2_with fail
      obtain ⟨k0, k1, _, _⟩ := (p0.put ⟨#[]⟩ ⟨#[]⟩).cells
      exact bodyPost_ret (v := .tuple #[.agg #[.string ⟨#[]⟩, .string ⟨#[]⟩], .int .i64 3]) (by simp [results, Tryz.results34, go_sem, k0, k1]) rfl ⟨rfl, below_put hS.below (Nat.le_refl _) _ _⟩
set_option maxRecDepth 100000 in
set_option maxHeartbeats 4000000 in
theorem qParse_b1n (s : ByteArray) (w : World) (hG : Ground w) (hs : s.size ≤ 130) (hlt : slash s.data.toList < s.size) (hdt : isText (denS s) = false) (hnt : isText (numS s) = false) :
    Calls Tryz.prog 34 #[.string s] w fun r w' => r = .returned (.tuple #[.agg #[.string ⟨#[]⟩, .string ⟨#[]⟩], .int .i64 3]) ∧ Below w.heap.size w w' := by
  have hsl := slash_size s
  obtain ⟨a, ha⟩ : ∃ a, slash s.data.toList = a := ⟨_, rfl⟩
  have hnx := numS_ext s
  have hdx := denS_ext s
  have hns := numS_size s
  have hds := denS_size s
  rw [ha] at hsl hnx hdx
  have HA := Lib.hid ha
  have HNX := Lib.hid hnx.symm
  have HDX := Lib.hid hdx.symm
  have HNS := Lib.hid (show (numS s).size ≤ 65536 by omega)
  have HDS := Lib.hid (show (denS s).size ≤ 65536 by omega)
  have hsz : ¬ (65536 : Int) < s.size := by omega
  have hwl : IntKind.i64.wrap ((s.size : Int) - 1) = (s.size : Int) - 1 := IntWalk.i64_in _ (by omega)
  clear hnx hdx hns hds
  rw [ha] at hlt
  have hlt0 : (a : Int) < s.size := by omega
  have hwa : IntKind.i64.wrap ((a : Int) + 1) = (a : Int) + 1 := IntWalk.i64_in _ (by omega)
  have HNT := Lib.hid hnt
  have HDT := Lib.hid hdt
  clear hnt hdt
  obtain ⟨W0, hW0⟩ : ∃ W0, W0 = w.alloc (.cells #[.string ⟨#[]⟩, .string ⟨#[]⟩] 24) := ⟨_, rfl⟩
  have hS : StL w W0 [(w.heap.size, ⟨#[]⟩, ⟨#[]⟩)] := by rw [hW0]; exact StL.one hG _ _
  go_enter Tryz.func34, Tryz.ntmps34
  go_wp2_with fail
  rw [← hW0]
  clear hW0
  go_loopw [4, 5] (fun av iv wr => ∃ t : Int, -1 ≤ t ∧ t < s.size ∧ iv = .int .i64 t ∧ av = .int .i64 (((t + 1).toNat + slash (s.data.toList.drop (t + 1).toNat) : Nat) : Int) ∧ W0 = wr) (fun _ iv _ => (intOf iv + 1).toNat)
  case atStart =>
    refine ⟨(s.size : Int) - 1, by omega, by omega, rfl, ?_, rfl⟩
    have e : ((s.size : Int) - 1 + 1).toNat = s.size := by omega
    rw [e, List.drop_eq_nil_of_le (by rw [size_toList]; exact Nat.le_refl _)]
    simp [slash]
  case round =>
    obtain ⟨t, ht1, ht2, rfl, rfl, rfl⟩ := hrel
    by_cases ht : 0 ≤ t
    · have hlt : t.toNat < s.size := by omega
      have hlt' : t.toNat < s.data.toList.length := by rw [size_toList]; exact hlt
      have hst := slash_step hlt'
      have hby := byte_at s t.toNat hlt hlt'
      have e1 : (t + 1).toNat = t.toNat + 1 := by omega
      have hwt : IntKind.i64.wrap (t - 1) = t - 1 := IntWalk.i64_in _ (by omega)
      obtain ⟨A1, hA1⟩ : ∃ A1, A1 = (t + 1).toNat + slash (s.data.toList.drop (t + 1).toNat) := ⟨_, rfl⟩
      rw [← hA1]
      by_cases hb : ((s[t.toNat]'hlt).toNat : Int) = 47
      · have hb8 : s.data.toList[t.toNat]'hlt' = 47 := by
          have : ((s.data.toList[t.toNat]'hlt').toNat : Int) = 47 := by rw [hby]; exact hb
          have h8 : (s.data.toList[t.toNat]'hlt').toNat = 47 := by omega
          exact UInt8.toNat_inj.1 (by rw [h8]; rfl)
        rw [if_pos hb8] at hst
        have HST := Lib.hid hst
        clear hst hby hb8 hlt' hA1
        go_wp2_with fail
        go_roundw
        case rel => exact ⟨t - 1, by omega, by omega, rfl, by rw [show (t - 1 + 1).toNat = t.toNat by omega, HST.out]; congr 1; omega, trivial⟩
        case measure => simp [intOf]; omega
      · have hb8 : ¬ s.data.toList[t.toNat]'hlt' = 47 := by
          intro e
          apply hb
          rw [← hby, e]; rfl
        rw [if_neg hb8] at hst
        have HST := Lib.hid hst
        have HA1 := Lib.hid hA1
        have HE1 := Lib.hid e1
        clear hst hby hb8 hlt' hA1 e1
        go_wp2_with fail
        go_roundw
        case rel => exact ⟨t - 1, by omega, by omega, rfl, by rw [show (t - 1 + 1).toNat = t.toNat by omega, HST.out, HA1.out, HE1.out]; congr 2; omega, trivial⟩
        case measure => simp [intOf]; omega
    · obtain rfl : t = -1 := by omega
      have e0 : (((-1 : Int) + 1).toNat + slash (s.data.toList.drop ((-1 : Int) + 1).toNat) : Nat) = a := by
        have : ((-1 : Int) + 1).toNat = 0 := by decide
        rw [this, List.drop_zero, HA.out]; omega
      rw [e0]
      clear e0
      obtain ⟨p0, _⟩ := hS.box
      obtain ⟨c0, c1, c2, c3⟩ := p0.cells
      go_wp2_with fail
      rw [HNX.out]
      refine (rParse_bad (numS s) W0 HNS.out HNT.out).mono ?_
      rintro _ _ ⟨rfl, rfl⟩
      go_wp2_with fail
      refine (qOne W0).mono ?_
      rintro _ _ ⟨rfl, rfl⟩
      go_wp2_with fail
      rw [HDX.out]
      refine (rParse_bad (denS s) W0 HDS.out HDT.out).mono ?_
      rintro _ _ ⟨rfl, rfl⟩
      go_wp2_with fail
      obtain ⟨k0, k1, _, _⟩ := (p0.put ⟨#[]⟩ ⟨#[]⟩).cells
      exact bodyPost_ret (v := .tuple #[.agg #[.string ⟨#[]⟩, .string ⟨#[]⟩], .int .i64 3]) (by simp [results, Tryz.results34, go_sem, k0, k1]) rfl ⟨rfl, below_put hS.below (Nat.le_refl _) _ _⟩
set_option maxRecDepth 100000 in
set_option maxHeartbeats 4000000 in
theorem qParse_b2 (s : ByteArray) (w : World) (hG : Ground w) (hs : s.size ≤ 130) (hlt : slash s.data.toList < s.size) (hdt : isText (denS s) = true) (hnt : isText (numS s) = false) :
    Calls Tryz.prog 34 #[.string s] w fun r w' => r = .returned (.tuple #[.agg #[.string ⟨#[]⟩, .string ⟨#[]⟩], .int .i64 3]) ∧ Below w.heap.size w w' := by
  have hsl := slash_size s
  obtain ⟨a, ha⟩ : ∃ a, slash s.data.toList = a := ⟨_, rfl⟩
  have hnx := numS_ext s
  have hdx := denS_ext s
  have hns := numS_size s
  have hds := denS_size s
  rw [ha] at hsl hnx hdx
  have HA := Lib.hid ha
  have HNX := Lib.hid hnx.symm
  have HDX := Lib.hid hdx.symm
  have HNS := Lib.hid (show (numS s).size ≤ 65536 by omega)
  have HDS := Lib.hid (show (denS s).size ≤ 65536 by omega)
  have hsz : ¬ (65536 : Int) < s.size := by omega
  have hwl : IntKind.i64.wrap ((s.size : Int) - 1) = (s.size : Int) - 1 := IntWalk.i64_in _ (by omega)
  clear hnx hdx hns hds
  rw [ha] at hlt
  have hlt0 : (a : Int) < s.size := by omega
  have hwa : IntKind.i64.wrap ((a : Int) + 1) = (a : Int) + 1 := IntWalk.i64_in _ (by omega)
  have HNT := Lib.hid hnt
  have HDT := Lib.hid hdt
  clear hnt hdt
  obtain ⟨W0, hW0⟩ : ∃ W0, W0 = w.alloc (.cells #[.string ⟨#[]⟩, .string ⟨#[]⟩] 24) := ⟨_, rfl⟩
  have hS : StL w W0 [(w.heap.size, ⟨#[]⟩, ⟨#[]⟩)] := by rw [hW0]; exact StL.one hG _ _
  go_enter Tryz.func34, Tryz.ntmps34
  go_wp2_with fail
  rw [← hW0]
  clear hW0
  go_loopw [4, 5] (fun av iv wr => ∃ t : Int, -1 ≤ t ∧ t < s.size ∧ iv = .int .i64 t ∧ av = .int .i64 (((t + 1).toNat + slash (s.data.toList.drop (t + 1).toNat) : Nat) : Int) ∧ W0 = wr) (fun _ iv _ => (intOf iv + 1).toNat)
  case atStart =>
    refine ⟨(s.size : Int) - 1, by omega, by omega, rfl, ?_, rfl⟩
    have e : ((s.size : Int) - 1 + 1).toNat = s.size := by omega
    rw [e, List.drop_eq_nil_of_le (by rw [size_toList]; exact Nat.le_refl _)]
    simp [slash]
  case round =>
    obtain ⟨t, ht1, ht2, rfl, rfl, rfl⟩ := hrel
    by_cases ht : 0 ≤ t
    · have hlt : t.toNat < s.size := by omega
      have hlt' : t.toNat < s.data.toList.length := by rw [size_toList]; exact hlt
      have hst := slash_step hlt'
      have hby := byte_at s t.toNat hlt hlt'
      have e1 : (t + 1).toNat = t.toNat + 1 := by omega
      have hwt : IntKind.i64.wrap (t - 1) = t - 1 := IntWalk.i64_in _ (by omega)
      obtain ⟨A1, hA1⟩ : ∃ A1, A1 = (t + 1).toNat + slash (s.data.toList.drop (t + 1).toNat) := ⟨_, rfl⟩
      rw [← hA1]
      by_cases hb : ((s[t.toNat]'hlt).toNat : Int) = 47
      · have hb8 : s.data.toList[t.toNat]'hlt' = 47 := by
          have : ((s.data.toList[t.toNat]'hlt').toNat : Int) = 47 := by rw [hby]; exact hb
          have h8 : (s.data.toList[t.toNat]'hlt').toNat = 47 := by omega
          exact UInt8.toNat_inj.1 (by rw [h8]; rfl)
        rw [if_pos hb8] at hst
        have HST := Lib.hid hst
        clear hst hby hb8 hlt' hA1
        go_wp2_with fail
        go_roundw
        case rel => exact ⟨t - 1, by omega, by omega, rfl, by rw [show (t - 1 + 1).toNat = t.toNat by omega, HST.out]; congr 1; omega, trivial⟩
        case measure => simp [intOf]; omega
      · have hb8 : ¬ s.data.toList[t.toNat]'hlt' = 47 := by
          intro e
          apply hb
          rw [← hby, e]; rfl
        rw [if_neg hb8] at hst
        have HST := Lib.hid hst
        have HA1 := Lib.hid hA1
        have HE1 := Lib.hid e1
        clear hst hby hb8 hlt' hA1 e1
        go_wp2_with fail
        go_roundw
        case rel => exact ⟨t - 1, by omega, by omega, rfl, by rw [show (t - 1 + 1).toNat = t.toNat by omega, HST.out, HA1.out, HE1.out]; congr 2; omega, trivial⟩
        case measure => simp [intOf]; omega
    · obtain rfl : t = -1 := by omega
      have e0 : (((-1 : Int) + 1).toNat + slash (s.data.toList.drop ((-1 : Int) + 1).toNat) : Nat) = a := by
        have : ((-1 : Int) + 1).toNat = 0 := by decide
        rw [this, List.drop_zero, HA.out]; omega
      rw [e0]
      clear e0
      obtain ⟨p0, _⟩ := hS.box
      obtain ⟨c0, c1, c2, c3⟩ := p0.cells
      go_wp2_with fail
      rw [HNX.out]
      refine (rParse_bad (numS s) W0 HNS.out HNT.out).mono ?_
      rintro _ _ ⟨rfl, rfl⟩
      go_wp2_with fail
      refine (qOne W0).mono ?_
      rintro _ _ ⟨rfl, rfl⟩
      go_wp2_with fail
      rw [HDX.out]
      refine (rParse_ok (denS s) W0 HDS.out HDT.out).mono ?_
      rintro _ _ ⟨rfl, rfl⟩
      go_wp2_with fail
      obtain ⟨k0, k1, _, _⟩ := (p0.put ⟨#[]⟩ ⟨#[]⟩).cells
      exact bodyPost_ret (v := .tuple #[.agg #[.string ⟨#[]⟩, .string ⟨#[]⟩], .int .i64 3]) (by simp [results, Tryz.results34, go_sem, k0, k1]) rfl ⟨rfl, below_put hS.below (Nat.le_refl _) _ _⟩
set_option maxRecDepth 100000 in
set_option maxHeartbeats 4000000 in
theorem qParse_b5 (s : ByteArray) (w : World) (hG : Ground w) (hs : s.size ≤ 130) (hlt : slash s.data.toList = s.size) (hnt : isText s = false) :
    Calls Tryz.prog 34 #[.string s] w fun r w' => r = .returned (.tuple #[.agg #[.string ⟨#[]⟩, .string ⟨#[]⟩], .int .i64 3]) ∧ Below w.heap.size w w' := by
  have hsl := slash_size s
  obtain ⟨a, ha⟩ : ∃ a, slash s.data.toList = a := ⟨_, rfl⟩
  have hnx := numS_ext s
  have hdx := denS_ext s
  have hns := numS_size s
  have hds := denS_size s
  rw [ha] at hsl hnx hdx
  have HA := Lib.hid ha
  have HNX := Lib.hid hnx.symm
  have HDX := Lib.hid hdx.symm
  have HNS := Lib.hid (show (numS s).size ≤ 65536 by omega)
  have HDS := Lib.hid (show (denS s).size ≤ 65536 by omega)
  have hsz : ¬ (65536 : Int) < s.size := by omega
  have hwl : IntKind.i64.wrap ((s.size : Int) - 1) = (s.size : Int) - 1 := IntWalk.i64_in _ (by omega)
  clear hnx hdx hns hds
  rw [ha] at hlt
  have hlt0 : ¬ (a : Int) < s.size := by omega
  have HNT := Lib.hid hnt
  clear hnt
  obtain ⟨W0, hW0⟩ : ∃ W0, W0 = w.alloc (.cells #[.string ⟨#[]⟩, .string ⟨#[]⟩] 24) := ⟨_, rfl⟩
  have hS : StL w W0 [(w.heap.size, ⟨#[]⟩, ⟨#[]⟩)] := by rw [hW0]; exact StL.one hG _ _
  go_enter Tryz.func34, Tryz.ntmps34
  go_wp2_with fail
  rw [← hW0]
  clear hW0
  go_loopw [4, 5] (fun av iv wr => ∃ t : Int, -1 ≤ t ∧ t < s.size ∧ iv = .int .i64 t ∧ av = .int .i64 (((t + 1).toNat + slash (s.data.toList.drop (t + 1).toNat) : Nat) : Int) ∧ W0 = wr) (fun _ iv _ => (intOf iv + 1).toNat)
  case atStart =>
    refine ⟨(s.size : Int) - 1, by omega, by omega, rfl, ?_, rfl⟩
    have e : ((s.size : Int) - 1 + 1).toNat = s.size := by omega
    rw [e, List.drop_eq_nil_of_le (by rw [size_toList]; exact Nat.le_refl _)]
    simp [slash]
  case round =>
    obtain ⟨t, ht1, ht2, rfl, rfl, rfl⟩ := hrel
    by_cases ht : 0 ≤ t
    · have hlt : t.toNat < s.size := by omega
      have hlt' : t.toNat < s.data.toList.length := by rw [size_toList]; exact hlt
      have hst := slash_step hlt'
      have hby := byte_at s t.toNat hlt hlt'
      have e1 : (t + 1).toNat = t.toNat + 1 := by omega
      have hwt : IntKind.i64.wrap (t - 1) = t - 1 := IntWalk.i64_in _ (by omega)
      obtain ⟨A1, hA1⟩ : ∃ A1, A1 = (t + 1).toNat + slash (s.data.toList.drop (t + 1).toNat) := ⟨_, rfl⟩
      rw [← hA1]
      by_cases hb : ((s[t.toNat]'hlt).toNat : Int) = 47
      · have hb8 : s.data.toList[t.toNat]'hlt' = 47 := by
          have : ((s.data.toList[t.toNat]'hlt').toNat : Int) = 47 := by rw [hby]; exact hb
          have h8 : (s.data.toList[t.toNat]'hlt').toNat = 47 := by omega
          exact UInt8.toNat_inj.1 (by rw [h8]; rfl)
        rw [if_pos hb8] at hst
        have HST := Lib.hid hst
        clear hst hby hb8 hlt' hA1
        go_wp2_with fail
        go_roundw
        case rel => exact ⟨t - 1, by omega, by omega, rfl, by rw [show (t - 1 + 1).toNat = t.toNat by omega, HST.out]; congr 1; omega, trivial⟩
        case measure => simp [intOf]; omega
      · have hb8 : ¬ s.data.toList[t.toNat]'hlt' = 47 := by
          intro e
          apply hb
          rw [← hby, e]; rfl
        rw [if_neg hb8] at hst
        have HST := Lib.hid hst
        have HA1 := Lib.hid hA1
        have HE1 := Lib.hid e1
        clear hst hby hb8 hlt' hA1 e1
        go_wp2_with fail
        go_roundw
        case rel => exact ⟨t - 1, by omega, by omega, rfl, by rw [show (t - 1 + 1).toNat = t.toNat by omega, HST.out, HA1.out, HE1.out]; congr 2; omega, trivial⟩
        case measure => simp [intOf]; omega
    · obtain rfl : t = -1 := by omega
      have e0 : (((-1 : Int) + 1).toNat + slash (s.data.toList.drop ((-1 : Int) + 1).toNat) : Nat) = a := by
        have : ((-1 : Int) + 1).toNat = 0 := by decide
        rw [this, List.drop_zero, HA.out]; omega
      rw [e0]
      clear e0
      obtain ⟨p0, _⟩ := hS.box
      obtain ⟨c0, c1, c2, c3⟩ := p0.cells
      go_wp2_with fail
      refine (rParse_bad s W0 (by omega) HNT.out).mono ?_
      rintro _ _ ⟨rfl, rfl⟩
      go_wp2_with fail
      refine (qOne W0).mono ?_
      rintro _ _ ⟨rfl, rfl⟩
      go_wp2_with fail
      obtain ⟨k0, k1, _, _⟩ := (p0.put ⟨#[]⟩ ⟨#[]⟩).cells
      exact bodyPost_ret (v := .tuple #[.agg #[.string ⟨#[]⟩, .string ⟨#[]⟩], .int .i64 3]) (by simp [results, Tryz.results34, go_sem, k0, k1]) rfl ⟨rfl, below_put hS.below (Nat.le_refl _) _ _⟩
set_option maxRecDepth 100000 in
set_option maxHeartbeats 4000000 in
theorem qParse_b3 (s : ByteArray) (w : World) (hG : Ground w) (hs : s.size ≤ 130) (hlt : slash s.data.toList < s.size) (hdt : isText (denS s) = true) (hnt : isText (numS s) = true) (h0 : vS (denS s) = 0) :
    Calls Tryz.prog 34 #[.string s] w fun r w' => r = .returned (.tuple #[.agg #[.string ⟨#[]⟩, .string ⟨#[]⟩], .int .i64 3]) ∧ Below w.heap.size w w' := by
  have hsl := slash_size s
  obtain ⟨a, ha⟩ : ∃ a, slash s.data.toList = a := ⟨_, rfl⟩
  have hnx := numS_ext s
  have hdx := denS_ext s
  have hns := numS_size s
  have hds := denS_size s
  rw [ha] at hsl hnx hdx
  have HA := Lib.hid ha
  have HNX := Lib.hid hnx.symm
  have HDX := Lib.hid hdx.symm
  have HNS := Lib.hid (show (numS s).size ≤ 65536 by omega)
  have HDS := Lib.hid (show (denS s).size ≤ 65536 by omega)
  have hsz : ¬ (65536 : Int) < s.size := by omega
  have hwl : IntKind.i64.wrap ((s.size : Int) - 1) = (s.size : Int) - 1 := IntWalk.i64_in _ (by omega)
  clear hnx hdx hns hds
  rw [ha] at hlt
  have hlt0 : (a : Int) < s.size := by omega
  have hwa : IntKind.i64.wrap ((a : Int) + 1) = (a : Int) + 1 := IntWalk.i64_in _ (by omega)
  have HSD := Lib.hid (show (cS (vS (denS s))).size ≤ 850 by have := cS_vS_size (denS s); have := denS_size s; omega)
  have HNT := Lib.hid hnt
  have HDT := Lib.hid hdt
  have HZ := Lib.hid (show vS (cS (vS (denS s))) = 0 by rw [vS_cS]; exact h0)
  clear hnt hdt h0
  obtain ⟨W0, hW0⟩ : ∃ W0, W0 = w.alloc (.cells #[.string ⟨#[]⟩, .string ⟨#[]⟩] 24) := ⟨_, rfl⟩
  have hS : StL w W0 [(w.heap.size, ⟨#[]⟩, ⟨#[]⟩)] := by rw [hW0]; exact StL.one hG _ _
  go_enter Tryz.func34, Tryz.ntmps34
  go_wp2_with fail
  rw [← hW0]
  clear hW0
  go_loopw [4, 5] (fun av iv wr => ∃ t : Int, -1 ≤ t ∧ t < s.size ∧ iv = .int .i64 t ∧ av = .int .i64 (((t + 1).toNat + slash (s.data.toList.drop (t + 1).toNat) : Nat) : Int) ∧ W0 = wr) (fun _ iv _ => (intOf iv + 1).toNat)
  case atStart =>
    refine ⟨(s.size : Int) - 1, by omega, by omega, rfl, ?_, rfl⟩
    have e : ((s.size : Int) - 1 + 1).toNat = s.size := by omega
    rw [e, List.drop_eq_nil_of_le (by rw [size_toList]; exact Nat.le_refl _)]
    simp [slash]
  case round =>
    obtain ⟨t, ht1, ht2, rfl, rfl, rfl⟩ := hrel
    by_cases ht : 0 ≤ t
    · have hlt : t.toNat < s.size := by omega
      have hlt' : t.toNat < s.data.toList.length := by rw [size_toList]; exact hlt
      have hst := slash_step hlt'
      have hby := byte_at s t.toNat hlt hlt'
      have e1 : (t + 1).toNat = t.toNat + 1 := by omega
      have hwt : IntKind.i64.wrap (t - 1) = t - 1 := IntWalk.i64_in _ (by omega)
      obtain ⟨A1, hA1⟩ : ∃ A1, A1 = (t + 1).toNat + slash (s.data.toList.drop (t + 1).toNat) := ⟨_, rfl⟩
      rw [← hA1]
      by_cases hb : ((s[t.toNat]'hlt).toNat : Int) = 47
      · have hb8 : s.data.toList[t.toNat]'hlt' = 47 := by
          have : ((s.data.toList[t.toNat]'hlt').toNat : Int) = 47 := by rw [hby]; exact hb
          have h8 : (s.data.toList[t.toNat]'hlt').toNat = 47 := by omega
          exact UInt8.toNat_inj.1 (by rw [h8]; rfl)
        rw [if_pos hb8] at hst
        have HST := Lib.hid hst
        clear hst hby hb8 hlt' hA1
        go_wp2_with fail
        go_roundw
        case rel => exact ⟨t - 1, by omega, by omega, rfl, by rw [show (t - 1 + 1).toNat = t.toNat by omega, HST.out]; congr 1; omega, trivial⟩
        case measure => simp [intOf]; omega
      · have hb8 : ¬ s.data.toList[t.toNat]'hlt' = 47 := by
          intro e
          apply hb
          rw [← hby, e]; rfl
        rw [if_neg hb8] at hst
        have HST := Lib.hid hst
        have HA1 := Lib.hid hA1
        have HE1 := Lib.hid e1
        clear hst hby hb8 hlt' hA1 e1
        go_wp2_with fail
        go_roundw
        case rel => exact ⟨t - 1, by omega, by omega, rfl, by rw [show (t - 1 + 1).toNat = t.toNat by omega, HST.out, HA1.out, HE1.out]; congr 2; omega, trivial⟩
        case measure => simp [intOf]; omega
    · obtain rfl : t = -1 := by omega
      have e0 : (((-1 : Int) + 1).toNat + slash (s.data.toList.drop ((-1 : Int) + 1).toNat) : Nat) = a := by
        have : ((-1 : Int) + 1).toNat = 0 := by decide
        rw [this, List.drop_zero, HA.out]; omega
      rw [e0]
      clear e0
      obtain ⟨p0, _⟩ := hS.box
      obtain ⟨c0, c1, c2, c3⟩ := p0.cells
      go_wp2_with fail
      rw [HNX.out]
      refine (rParse_ok (numS s) W0 HNS.out HNT.out).mono ?_
      rintro _ _ ⟨rfl, rfl⟩
      go_wp2_with fail
      refine (qOne W0).mono ?_
      rintro _ _ ⟨rfl, rfl⟩
      go_wp2_with fail
      rw [HDX.out]
      refine (rParse_ok (denS s) W0 HDS.out HDT.out).mono ?_
      rintro _ _ ⟨rfl, rfl⟩
      go_wp2_with fail
      refine (qNew_zero (cS (vS (numS s))) (cS (vS (denS s))) W0 HSD.out HZ.out).mono ?_
      rintro _ w1 ⟨rfl, hB⟩
      replace hS := hS.next hB
      clear hB p0 c0 c1 c2 c3
      go_upto_region 19 with fail
      obtain ⟨B, hBe⟩ : ∃ B, B = w1.heap.size := ⟨_, rfl⟩
      obtain ⟨V, hV⟩ : ∃ V, V = w1.alloc (.cells #[.string ⟨#[]⟩, .string ⟨#[]⟩] 24) := ⟨_, rfl⟩
      have hT : StL w V [(B, ⟨#[]⟩, ⟨#[]⟩), (w.heap.size, ⟨#[]⟩, ⟨#[]⟩)] := by rw [hV, hBe]; exact hS.alloc _ _
      rw [← hBe, ← hV]
      clear hV hBe hS
      obtain ⟨pb, p0, _⟩ := hT.box
      obtain ⟨b0, b1, _, _⟩ := pb.cells
      obtain ⟨c0, c1, c2, c3⟩ := p0.cells
      go_wp2_with fail
      obtain ⟨k0, k1, _, _⟩ := (p0.put ⟨#[]⟩ ⟨#[]⟩).cells
      exact bodyPost_ret (v := .tuple #[.agg #[.string ⟨#[]⟩, .string ⟨#[]⟩], .int .i64 3]) (by simp [results, Tryz.results34, go_sem, k0, k1]) rfl ⟨rfl, below_put hT.below (Nat.le_refl _) _ _⟩
set_option maxRecDepth 100000 in
set_option maxHeartbeats 4000000 in
theorem qParse_g1 (s : ByteArray) (w : World) (hG : Ground w) (hs : s.size ≤ 130) (hlt : slash s.data.toList = s.size) (hnt : isText s = true) (f : Int × Int) (hf : redS (vS s) (1) = f) (hgd : textP f = s) :
    Calls Tryz.prog 34 #[.string s] w fun r w' => r = .returned (.tuple #[.agg #[.string (cS f.1), .string (cD f.2)], .int .i64 0]) ∧ Below w.heap.size w w' := by
  have hsl := slash_size s
  obtain ⟨a, ha⟩ : ∃ a, slash s.data.toList = a := ⟨_, rfl⟩
  have hnx := numS_ext s
  have hdx := denS_ext s
  have hns := numS_size s
  have hds := denS_size s
  rw [ha] at hsl hnx hdx
  have HA := Lib.hid ha
  have HNX := Lib.hid hnx.symm
  have HDX := Lib.hid hdx.symm
  have HNS := Lib.hid (show (numS s).size ≤ 65536 by omega)
  have HDS := Lib.hid (show (denS s).size ≤ 65536 by omega)
  have hsz : ¬ (65536 : Int) < s.size := by omega
  have hwl : IntKind.i64.wrap ((s.size : Int) - 1) = (s.size : Int) - 1 := IntWalk.i64_in _ (by omega)
  clear hnx hdx hns hds
  rw [ha] at hlt
  have hlt0 : ¬ (a : Int) < s.size := by omega
  have HSN := Lib.hid (show (cS (vS s)).size ≤ 850 by have := cS_vS_size s; omega)
  have HNT := Lib.hid hnt
  have hlf : Low f := by rw [← hf]; exact Low.of_redS (by decide)
  have hcf2 : CapP 130 f := by rw [← hf]; exact CapP.redS (Cap.mono (Cap.of (Nat.le_refl s.size) rfl) hs) (Cap.one (by decide)) (by decide)
  have HF := Lib.hid hf
  have HG2 := Lib.hid hgd
  have hpr : ∀ W, Ground W → Calls Tryz.prog 36 #[.agg #[.string (cS f.1), .string (cD f.2)]] W fun r w' => r = .returned (.string (textP f)) ∧ Below W.heap.size W w' := by
    intro W hW
    have := qPrint_any (cS f.1) (cD f.2) W hW (by have := cS_size hcf2.1; omega) (by have := cD_size hcf2.2; omega)
    rwa [raw_can hlf.1, hlf.eq] at this
  have HPR := Lib.hid hpr
  clear hf hgd hpr hlf hcf2 hnt
  obtain ⟨W0, hW0⟩ : ∃ W0, W0 = w.alloc (.cells #[.string ⟨#[]⟩, .string ⟨#[]⟩] 24) := ⟨_, rfl⟩
  have hS : StL w W0 [(w.heap.size, ⟨#[]⟩, ⟨#[]⟩)] := by rw [hW0]; exact StL.one hG _ _
  go_enter Tryz.func34, Tryz.ntmps34
  go_wp2_with fail
  rw [← hW0]
  clear hW0
  go_loopw [4, 5] (fun av iv wr => ∃ t : Int, -1 ≤ t ∧ t < s.size ∧ iv = .int .i64 t ∧ av = .int .i64 (((t + 1).toNat + slash (s.data.toList.drop (t + 1).toNat) : Nat) : Int) ∧ W0 = wr) (fun _ iv _ => (intOf iv + 1).toNat)
  case atStart =>
    refine ⟨(s.size : Int) - 1, by omega, by omega, rfl, ?_, rfl⟩
    have e : ((s.size : Int) - 1 + 1).toNat = s.size := by omega
    rw [e, List.drop_eq_nil_of_le (by rw [size_toList]; exact Nat.le_refl _)]
    simp [slash]
  case round =>
    obtain ⟨t, ht1, ht2, rfl, rfl, rfl⟩ := hrel
    by_cases ht : 0 ≤ t
    · have hlt : t.toNat < s.size := by omega
      have hlt' : t.toNat < s.data.toList.length := by rw [size_toList]; exact hlt
      have hst := slash_step hlt'
      have hby := byte_at s t.toNat hlt hlt'
      have e1 : (t + 1).toNat = t.toNat + 1 := by omega
      have hwt : IntKind.i64.wrap (t - 1) = t - 1 := IntWalk.i64_in _ (by omega)
      obtain ⟨A1, hA1⟩ : ∃ A1, A1 = (t + 1).toNat + slash (s.data.toList.drop (t + 1).toNat) := ⟨_, rfl⟩
      rw [← hA1]
      by_cases hb : ((s[t.toNat]'hlt).toNat : Int) = 47
      · have hb8 : s.data.toList[t.toNat]'hlt' = 47 := by
          have : ((s.data.toList[t.toNat]'hlt').toNat : Int) = 47 := by rw [hby]; exact hb
          have h8 : (s.data.toList[t.toNat]'hlt').toNat = 47 := by omega
          exact UInt8.toNat_inj.1 (by rw [h8]; rfl)
        rw [if_pos hb8] at hst
        have HST := Lib.hid hst
        clear hst hby hb8 hlt' hA1
        go_wp2_with fail
        go_roundw
        case rel => exact ⟨t - 1, by omega, by omega, rfl, by rw [show (t - 1 + 1).toNat = t.toNat by omega, HST.out]; congr 1; omega, trivial⟩
        case measure => simp [intOf]; omega
      · have hb8 : ¬ s.data.toList[t.toNat]'hlt' = 47 := by
          intro e
          apply hb
          rw [← hby, e]; rfl
        rw [if_neg hb8] at hst
        have HST := Lib.hid hst
        have HA1 := Lib.hid hA1
        have HE1 := Lib.hid e1
        clear hst hby hb8 hlt' hA1 e1
        go_wp2_with fail
        go_roundw
        case rel => exact ⟨t - 1, by omega, by omega, rfl, by rw [show (t - 1 + 1).toNat = t.toNat by omega, HST.out, HA1.out, HE1.out]; congr 2; omega, trivial⟩
        case measure => simp [intOf]; omega
    · obtain rfl : t = -1 := by omega
      have e0 : (((-1 : Int) + 1).toNat + slash (s.data.toList.drop ((-1 : Int) + 1).toNat) : Nat) = a := by
        have : ((-1 : Int) + 1).toNat = 0 := by decide
        rw [this, List.drop_zero, HA.out]; omega
      rw [e0]
      clear e0
      obtain ⟨p0, _⟩ := hS.box
      obtain ⟨c0, c1, c2, c3⟩ := p0.cells
      go_wp2_with fail
      refine (rParse_ok s W0 (by omega) HNT.out).mono ?_
      rintro _ _ ⟨rfl, rfl⟩
      go_wp2_with fail
      refine (qOne W0).mono ?_
      rintro _ _ ⟨rfl, rfl⟩
      go_wp2_with fail
      refine (show Calls _ _ _ W0 (fun e w' => e = .returned (.tuple #[.agg #[.string (cS f.1), .string (cD f.2)], .int .i64 0]) ∧ Below W0.heap.size W0 w') from by have := qNew_any (n := cS (vS s)) (d := ⟨#[49]⟩) (y := 1) W0 hS.g HSN.out (by decide) (vS_cS _) vS_one (by decide); rwa [HF.out] at this).mono ?_
      rintro _ w1 ⟨rfl, hB⟩
      replace hS := hS.next hB
      clear hB p0 c0 c1 c2 c3
      go_upto_region 19 with fail
      obtain ⟨B, hBe⟩ : ∃ B, B = w1.heap.size := ⟨_, rfl⟩
      obtain ⟨V, hV⟩ : ∃ V, V = w1.alloc (.cells #[.string (cS f.1), .string (cD f.2)] 24) := ⟨_, rfl⟩
      have hT : StL w V [(B, (cS f.1), (cD f.2)), (w.heap.size, ⟨#[]⟩, ⟨#[]⟩)] := by rw [hV, hBe]; exact hS.alloc _ _
      rw [← hBe, ← hV]
      clear hV hBe hS
      obtain ⟨pb, p0, _⟩ := hT.box
      obtain ⟨b0, b1, _, _⟩ := pb.cells
      obtain ⟨c0, c1, c2, c3⟩ := p0.cells
      go_wp2_with fail
      refine (HPR.out V hT.g).mono ?_
      rintro _ w2 ⟨rfl, hB⟩
      replace hT := hT.next hB
      clear hB pb p0 b0 b1 c0 c1 c2 c3
      obtain ⟨pb, p0, _⟩ := hT.box
      obtain ⟨b0, b1, _, _⟩ := pb.cells
      obtain ⟨c0, c1, c2, c3⟩ := p0.cells
      rw [HG2.out]
      go_wp2_with fail
      obtain ⟨k0, k1, _, _⟩ := (p0.put (cS f.1) (cD f.2)).cells
      exact bodyPost_ret (v := .tuple #[.agg #[.string (cS f.1), .string (cD f.2)], .int .i64 0]) (by simp [results, Tryz.results34, go_sem, k0, k1]) rfl ⟨rfl, below_put hT.below (Nat.le_refl _) _ _⟩
set_option maxRecDepth 100000 in
set_option maxHeartbeats 4000000 in
theorem qParse_g2 (s : ByteArray) (w : World) (hG : Ground w) (hs : s.size ≤ 130) (hlt : slash s.data.toList < s.size) (hdt : isText (denS s) = true) (hnt : isText (numS s) = true) (h0 : vS (denS s) ≠ 0) (f : Int × Int) (hf : redS (vS (numS s)) (vS (denS s)) = f) (hgd : textP f = s) :
    Calls Tryz.prog 34 #[.string s] w fun r w' => r = .returned (.tuple #[.agg #[.string (cS f.1), .string (cD f.2)], .int .i64 0]) ∧ Below w.heap.size w w' := by
  have hsl := slash_size s
  obtain ⟨a, ha⟩ : ∃ a, slash s.data.toList = a := ⟨_, rfl⟩
  have hnx := numS_ext s
  have hdx := denS_ext s
  have hns := numS_size s
  have hds := denS_size s
  rw [ha] at hsl hnx hdx
  have HA := Lib.hid ha
  have HNX := Lib.hid hnx.symm
  have HDX := Lib.hid hdx.symm
  have HNS := Lib.hid (show (numS s).size ≤ 65536 by omega)
  have HDS := Lib.hid (show (denS s).size ≤ 65536 by omega)
  have hsz : ¬ (65536 : Int) < s.size := by omega
  have hwl : IntKind.i64.wrap ((s.size : Int) - 1) = (s.size : Int) - 1 := IntWalk.i64_in _ (by omega)
  clear hnx hdx hns hds
  rw [ha] at hlt
  have hlt0 : (a : Int) < s.size := by omega
  have hwa : IntKind.i64.wrap ((a : Int) + 1) = (a : Int) + 1 := IntWalk.i64_in _ (by omega)
  have HSN := Lib.hid (show (cS (vS (numS s))).size ≤ 850 by have := cS_vS_size (numS s); have := numS_size s; omega)
  have HSD := Lib.hid (show (cS (vS (denS s))).size ≤ 850 by have := cS_vS_size (denS s); have := denS_size s; omega)
  have HNT := Lib.hid hnt
  have HDT := Lib.hid hdt
  have hlf : Low f := by rw [← hf]; exact Low.of_redS h0
  have hcf2 : CapP 130 f := by rw [← hf]; exact CapP.redS (Cap.mono (Cap.of (numS_size s) rfl) hs) (Cap.mono (Cap.of (denS_size s) rfl) hs) h0
  have HF := Lib.hid hf
  have HG2 := Lib.hid hgd
  have hpr : ∀ W, Ground W → Calls Tryz.prog 36 #[.agg #[.string (cS f.1), .string (cD f.2)]] W fun r w' => r = .returned (.string (textP f)) ∧ Below W.heap.size W w' := by
    intro W hW
    have := qPrint_any (cS f.1) (cD f.2) W hW (by have := cS_size hcf2.1; omega) (by have := cD_size hcf2.2; omega)
    rwa [raw_can hlf.1, hlf.eq] at this
  have HPR := Lib.hid hpr
  have H0 := Lib.hid h0
  clear hf hgd hpr hlf hcf2 hnt hdt h0
  obtain ⟨W0, hW0⟩ : ∃ W0, W0 = w.alloc (.cells #[.string ⟨#[]⟩, .string ⟨#[]⟩] 24) := ⟨_, rfl⟩
  have hS : StL w W0 [(w.heap.size, ⟨#[]⟩, ⟨#[]⟩)] := by rw [hW0]; exact StL.one hG _ _
  go_enter Tryz.func34, Tryz.ntmps34
  go_wp2_with fail
  rw [← hW0]
  clear hW0
  go_loopw [4, 5] (fun av iv wr => ∃ t : Int, -1 ≤ t ∧ t < s.size ∧ iv = .int .i64 t ∧ av = .int .i64 (((t + 1).toNat + slash (s.data.toList.drop (t + 1).toNat) : Nat) : Int) ∧ W0 = wr) (fun _ iv _ => (intOf iv + 1).toNat)
  case atStart =>
    refine ⟨(s.size : Int) - 1, by omega, by omega, rfl, ?_, rfl⟩
    have e : ((s.size : Int) - 1 + 1).toNat = s.size := by omega
    rw [e, List.drop_eq_nil_of_le (by rw [size_toList]; exact Nat.le_refl _)]
    simp [slash]
  case round =>
    obtain ⟨t, ht1, ht2, rfl, rfl, rfl⟩ := hrel
    by_cases ht : 0 ≤ t
    · have hlt : t.toNat < s.size := by omega
      have hlt' : t.toNat < s.data.toList.length := by rw [size_toList]; exact hlt
      have hst := slash_step hlt'
      have hby := byte_at s t.toNat hlt hlt'
      have e1 : (t + 1).toNat = t.toNat + 1 := by omega
      have hwt : IntKind.i64.wrap (t - 1) = t - 1 := IntWalk.i64_in _ (by omega)
      obtain ⟨A1, hA1⟩ : ∃ A1, A1 = (t + 1).toNat + slash (s.data.toList.drop (t + 1).toNat) := ⟨_, rfl⟩
      rw [← hA1]
      by_cases hb : ((s[t.toNat]'hlt).toNat : Int) = 47
      · have hb8 : s.data.toList[t.toNat]'hlt' = 47 := by
          have : ((s.data.toList[t.toNat]'hlt').toNat : Int) = 47 := by rw [hby]; exact hb
          have h8 : (s.data.toList[t.toNat]'hlt').toNat = 47 := by omega
          exact UInt8.toNat_inj.1 (by rw [h8]; rfl)
        rw [if_pos hb8] at hst
        have HST := Lib.hid hst
        clear hst hby hb8 hlt' hA1
        go_wp2_with fail
        go_roundw
        case rel => exact ⟨t - 1, by omega, by omega, rfl, by rw [show (t - 1 + 1).toNat = t.toNat by omega, HST.out]; congr 1; omega, trivial⟩
        case measure => simp [intOf]; omega
      · have hb8 : ¬ s.data.toList[t.toNat]'hlt' = 47 := by
          intro e
          apply hb
          rw [← hby, e]; rfl
        rw [if_neg hb8] at hst
        have HST := Lib.hid hst
        have HA1 := Lib.hid hA1
        have HE1 := Lib.hid e1
        clear hst hby hb8 hlt' hA1 e1
        go_wp2_with fail
        go_roundw
        case rel => exact ⟨t - 1, by omega, by omega, rfl, by rw [show (t - 1 + 1).toNat = t.toNat by omega, HST.out, HA1.out, HE1.out]; congr 2; omega, trivial⟩
        case measure => simp [intOf]; omega
    · obtain rfl : t = -1 := by omega
      have e0 : (((-1 : Int) + 1).toNat + slash (s.data.toList.drop ((-1 : Int) + 1).toNat) : Nat) = a := by
        have : ((-1 : Int) + 1).toNat = 0 := by decide
        rw [this, List.drop_zero, HA.out]; omega
      rw [e0]
      clear e0
      obtain ⟨p0, _⟩ := hS.box
      obtain ⟨c0, c1, c2, c3⟩ := p0.cells
      go_wp2_with fail
      rw [HNX.out]
      refine (rParse_ok (numS s) W0 HNS.out HNT.out).mono ?_
      rintro _ _ ⟨rfl, rfl⟩
      go_wp2_with fail
      refine (qOne W0).mono ?_
      rintro _ _ ⟨rfl, rfl⟩
      go_wp2_with fail
      rw [HDX.out]
      refine (rParse_ok (denS s) W0 HDS.out HDT.out).mono ?_
      rintro _ _ ⟨rfl, rfl⟩
      go_wp2_with fail
      refine (show Calls _ _ _ W0 (fun e w' => e = .returned (.tuple #[.agg #[.string (cS f.1), .string (cD f.2)], .int .i64 0]) ∧ Below W0.heap.size W0 w') from by have := qNew_any (n := cS (vS (numS s))) (d := (cS (vS (denS s)))) (y := vS (denS s)) W0 hS.g HSN.out HSD.out (vS_cS _) (vS_cS _) H0.out; rwa [HF.out] at this).mono ?_
      rintro _ w1 ⟨rfl, hB⟩
      replace hS := hS.next hB
      clear hB p0 c0 c1 c2 c3
      go_upto_region 19 with fail
      obtain ⟨B, hBe⟩ : ∃ B, B = w1.heap.size := ⟨_, rfl⟩
      obtain ⟨V, hV⟩ : ∃ V, V = w1.alloc (.cells #[.string (cS f.1), .string (cD f.2)] 24) := ⟨_, rfl⟩
      have hT : StL w V [(B, (cS f.1), (cD f.2)), (w.heap.size, ⟨#[]⟩, ⟨#[]⟩)] := by rw [hV, hBe]; exact hS.alloc _ _
      rw [← hBe, ← hV]
      clear hV hBe hS
      obtain ⟨pb, p0, _⟩ := hT.box
      obtain ⟨b0, b1, _, _⟩ := pb.cells
      obtain ⟨c0, c1, c2, c3⟩ := p0.cells
      go_wp2_with fail
      refine (HPR.out V hT.g).mono ?_
      rintro _ w2 ⟨rfl, hB⟩
      replace hT := hT.next hB
      clear hB pb p0 b0 b1 c0 c1 c2 c3
      obtain ⟨pb, p0, _⟩ := hT.box
      obtain ⟨b0, b1, _, _⟩ := pb.cells
      obtain ⟨c0, c1, c2, c3⟩ := p0.cells
      rw [HG2.out]
      go_wp2_with fail
      obtain ⟨k0, k1, _, _⟩ := (p0.put (cS f.1) (cD f.2)).cells
      exact bodyPost_ret (v := .tuple #[.agg #[.string (cS f.1), .string (cD f.2)], .int .i64 0]) (by simp [results, Tryz.results34, go_sem, k0, k1]) rfl ⟨rfl, below_put hT.below (Nat.le_refl _) _ _⟩
set_option maxRecDepth 100000 in
set_option maxHeartbeats 4000000 in
theorem qParse_b4 (s : ByteArray) (w : World) (hG : Ground w) (hs : s.size ≤ 130) (hlt : slash s.data.toList < s.size) (hdt : isText (denS s) = true) (hnt : isText (numS s) = true) (h0 : vS (denS s) ≠ 0) (f : Int × Int) (hf : redS (vS (numS s)) (vS (denS s)) = f) (hgd : textP f ≠ s) :
    Calls Tryz.prog 34 #[.string s] w fun r w' => r = .returned (.tuple #[.agg #[.string ⟨#[]⟩, .string ⟨#[]⟩], .int .i64 3]) ∧ Below w.heap.size w w' := by
  have hsl := slash_size s
  obtain ⟨a, ha⟩ : ∃ a, slash s.data.toList = a := ⟨_, rfl⟩
  have hnx := numS_ext s
  have hdx := denS_ext s
  have hns := numS_size s
  have hds := denS_size s
  rw [ha] at hsl hnx hdx
  have HA := Lib.hid ha
  have HNX := Lib.hid hnx.symm
  have HDX := Lib.hid hdx.symm
  have HNS := Lib.hid (show (numS s).size ≤ 65536 by omega)
  have HDS := Lib.hid (show (denS s).size ≤ 65536 by omega)
  have hsz : ¬ (65536 : Int) < s.size := by omega
  have hwl : IntKind.i64.wrap ((s.size : Int) - 1) = (s.size : Int) - 1 := IntWalk.i64_in _ (by omega)
  clear hnx hdx hns hds
  rw [ha] at hlt
  have hlt0 : (a : Int) < s.size := by omega
  have hwa : IntKind.i64.wrap ((a : Int) + 1) = (a : Int) + 1 := IntWalk.i64_in _ (by omega)
  have HSN := Lib.hid (show (cS (vS (numS s))).size ≤ 850 by have := cS_vS_size (numS s); have := numS_size s; omega)
  have HSD := Lib.hid (show (cS (vS (denS s))).size ≤ 850 by have := cS_vS_size (denS s); have := denS_size s; omega)
  have HNT := Lib.hid hnt
  have HDT := Lib.hid hdt
  have hlf : Low f := by rw [← hf]; exact Low.of_redS h0
  have hcf2 : CapP 130 f := by rw [← hf]; exact CapP.redS (Cap.mono (Cap.of (numS_size s) rfl) hs) (Cap.mono (Cap.of (denS_size s) rfl) hs) h0
  have HF := Lib.hid hf
  have HG2 := Lib.hid hgd
  have hpr : ∀ W, Ground W → Calls Tryz.prog 36 #[.agg #[.string (cS f.1), .string (cD f.2)]] W fun r w' => r = .returned (.string (textP f)) ∧ Below W.heap.size W w' := by
    intro W hW
    have := qPrint_any (cS f.1) (cD f.2) W hW (by have := cS_size hcf2.1; omega) (by have := cD_size hcf2.2; omega)
    rwa [raw_can hlf.1, hlf.eq] at this
  have HPR := Lib.hid hpr
  have H0 := Lib.hid h0
  clear hf hgd hpr hlf hcf2 hnt hdt h0
  obtain ⟨W0, hW0⟩ : ∃ W0, W0 = w.alloc (.cells #[.string ⟨#[]⟩, .string ⟨#[]⟩] 24) := ⟨_, rfl⟩
  have hS : StL w W0 [(w.heap.size, ⟨#[]⟩, ⟨#[]⟩)] := by rw [hW0]; exact StL.one hG _ _
  go_enter Tryz.func34, Tryz.ntmps34
  go_wp2_with fail
  rw [← hW0]
  clear hW0
  go_loopw [4, 5] (fun av iv wr => ∃ t : Int, -1 ≤ t ∧ t < s.size ∧ iv = .int .i64 t ∧ av = .int .i64 (((t + 1).toNat + slash (s.data.toList.drop (t + 1).toNat) : Nat) : Int) ∧ W0 = wr) (fun _ iv _ => (intOf iv + 1).toNat)
  case atStart =>
    refine ⟨(s.size : Int) - 1, by omega, by omega, rfl, ?_, rfl⟩
    have e : ((s.size : Int) - 1 + 1).toNat = s.size := by omega
    rw [e, List.drop_eq_nil_of_le (by rw [size_toList]; exact Nat.le_refl _)]
    simp [slash]
  case round =>
    obtain ⟨t, ht1, ht2, rfl, rfl, rfl⟩ := hrel
    by_cases ht : 0 ≤ t
    · have hlt : t.toNat < s.size := by omega
      have hlt' : t.toNat < s.data.toList.length := by rw [size_toList]; exact hlt
      have hst := slash_step hlt'
      have hby := byte_at s t.toNat hlt hlt'
      have e1 : (t + 1).toNat = t.toNat + 1 := by omega
      have hwt : IntKind.i64.wrap (t - 1) = t - 1 := IntWalk.i64_in _ (by omega)
      obtain ⟨A1, hA1⟩ : ∃ A1, A1 = (t + 1).toNat + slash (s.data.toList.drop (t + 1).toNat) := ⟨_, rfl⟩
      rw [← hA1]
      by_cases hb : ((s[t.toNat]'hlt).toNat : Int) = 47
      · have hb8 : s.data.toList[t.toNat]'hlt' = 47 := by
          have : ((s.data.toList[t.toNat]'hlt').toNat : Int) = 47 := by rw [hby]; exact hb
          have h8 : (s.data.toList[t.toNat]'hlt').toNat = 47 := by omega
          exact UInt8.toNat_inj.1 (by rw [h8]; rfl)
        rw [if_pos hb8] at hst
        have HST := Lib.hid hst
        clear hst hby hb8 hlt' hA1
        go_wp2_with fail
        go_roundw
        case rel => exact ⟨t - 1, by omega, by omega, rfl, by rw [show (t - 1 + 1).toNat = t.toNat by omega, HST.out]; congr 1; omega, trivial⟩
        case measure => simp [intOf]; omega
      · have hb8 : ¬ s.data.toList[t.toNat]'hlt' = 47 := by
          intro e
          apply hb
          rw [← hby, e]; rfl
        rw [if_neg hb8] at hst
        have HST := Lib.hid hst
        have HA1 := Lib.hid hA1
        have HE1 := Lib.hid e1
        clear hst hby hb8 hlt' hA1 e1
        go_wp2_with fail
        go_roundw
        case rel => exact ⟨t - 1, by omega, by omega, rfl, by rw [show (t - 1 + 1).toNat = t.toNat by omega, HST.out, HA1.out, HE1.out]; congr 2; omega, trivial⟩
        case measure => simp [intOf]; omega
    · obtain rfl : t = -1 := by omega
      have e0 : (((-1 : Int) + 1).toNat + slash (s.data.toList.drop ((-1 : Int) + 1).toNat) : Nat) = a := by
        have : ((-1 : Int) + 1).toNat = 0 := by decide
        rw [this, List.drop_zero, HA.out]; omega
      rw [e0]
      clear e0
      obtain ⟨p0, _⟩ := hS.box
      obtain ⟨c0, c1, c2, c3⟩ := p0.cells
      go_wp2_with fail
      rw [HNX.out]
      refine (rParse_ok (numS s) W0 HNS.out HNT.out).mono ?_
      rintro _ _ ⟨rfl, rfl⟩
      go_wp2_with fail
      refine (qOne W0).mono ?_
      rintro _ _ ⟨rfl, rfl⟩
      go_wp2_with fail
      rw [HDX.out]
      refine (rParse_ok (denS s) W0 HDS.out HDT.out).mono ?_
      rintro _ _ ⟨rfl, rfl⟩
      go_wp2_with fail
      refine (show Calls _ _ _ W0 (fun e w' => e = .returned (.tuple #[.agg #[.string (cS f.1), .string (cD f.2)], .int .i64 0]) ∧ Below W0.heap.size W0 w') from by have := qNew_any (n := cS (vS (numS s))) (d := (cS (vS (denS s)))) (y := vS (denS s)) W0 hS.g HSN.out HSD.out (vS_cS _) (vS_cS _) H0.out; rwa [HF.out] at this).mono ?_
      rintro _ w1 ⟨rfl, hB⟩
      replace hS := hS.next hB
      clear hB p0 c0 c1 c2 c3
      go_upto_region 19 with fail
      obtain ⟨B, hBe⟩ : ∃ B, B = w1.heap.size := ⟨_, rfl⟩
      obtain ⟨V, hV⟩ : ∃ V, V = w1.alloc (.cells #[.string (cS f.1), .string (cD f.2)] 24) := ⟨_, rfl⟩
      have hT : StL w V [(B, (cS f.1), (cD f.2)), (w.heap.size, ⟨#[]⟩, ⟨#[]⟩)] := by rw [hV, hBe]; exact hS.alloc _ _
      rw [← hBe, ← hV]
      clear hV hBe hS
      obtain ⟨pb, p0, _⟩ := hT.box
      obtain ⟨b0, b1, _, _⟩ := pb.cells
      obtain ⟨c0, c1, c2, c3⟩ := p0.cells
      go_wp2_with fail
      refine (HPR.out V hT.g).mono ?_
      rintro _ w2 ⟨rfl, hB⟩
      replace hT := hT.next hB
      clear hB pb p0 b0 b1 c0 c1 c2 c3
      obtain ⟨pb, p0, _⟩ := hT.box
      obtain ⟨b0, b1, _, _⟩ := pb.cells
      obtain ⟨c0, c1, c2, c3⟩ := p0.cells
      obtain ⟨x, hx⟩ : ∃ x, x = textP f := ⟨_, rfl⟩
      have hne : (x.toList == s.toList) = false := by rw [hx]; exact eq_str _ _ HG2.out
      rw [← hx]
      clear hx
      go_wp2_with fail
      obtain ⟨k0, k1, _, _⟩ := (p0.put ⟨#[]⟩ ⟨#[]⟩).cells
      exact bodyPost_ret (v := .tuple #[.agg #[.string ⟨#[]⟩, .string ⟨#[]⟩], .int .i64 3]) (by simp [results, Tryz.results34, go_sem, k0, k1]) rfl ⟨rfl, below_put hT.below (Nat.le_refl _) _ _⟩
theorem qParse_long (s : ByteArray) (w : World) (hs : 65536 < s.size) :
    Calls Tryz.prog 34 #[.string s] w fun r w' => r = .returned (.tuple #[.agg #[.string ⟨#[]⟩, .string ⟨#[]⟩], .int .i64 4]) ∧ Below w.heap.size w w' := by
  go_enter Tryz.func34, Tryz.ntmps34
  go_wp2_with fail
  exact bodyPost_ret (v := .tuple #[.agg #[.string ⟨#[]⟩, .string ⟨#[]⟩], .int .i64 4]) (by simp [results, Tryz.results34, go_sem]) rfl ⟨rfl, (Below.refl _ _).alloc (Nat.le_refl _) _⟩

theorem parse_both (s : ByteArray) (hs : s.size ≤ 130 ∨ 65536 < s.size) :
    ∃ u v e, Ret 33 #[.string s] (.tuple #[.agg #[.string u, .string v], .int .i64 e]) ∧ Ret 34 #[.string s] (.tuple #[.agg #[.string u, .string v], .int .i64 e]) := by
  rcases hs with hs | hs
  · by_cases hg : textP (parseV s) = s
    · obtain ⟨h1, h2, h3⟩ := good_parts hg
      refine ⟨_, _, 0, fun W hG => fParse_ok s W hG (by omega) hg, fun W hG => ?_⟩
      rcases h3 with ⟨h4, h5⟩ | ⟨h4, h5, h6⟩
      · exact qParse_g1 s W hG hs h4 (by rw [numS_whole h4] at h1; exact h1) (parseV s) (by rw [numS_whole h4] at h2; rw [h2, redS_red (by decide), red_one, ← h5]) hg
      · have hl := parseV_low s
        exact qParse_g2 s W hG hs h4 h5 h1 (by rw [h6]; have := hl.1; omega) (parseV s) (by rw [h2, h6, redS_red hl.1]; exact hl.eq) hg
    · refine ⟨⟨#[]⟩, ⟨#[]⟩, 3, fun W hG => fParse_bad s W hG (by omega) hg, fun W hG => ?_⟩
      have hsl := slash_size s
      by_cases hlt : slash s.data.toList < s.size
      · cases hdt : isText (denS s)
        · cases hnt : isText (numS s)
          · exact qParse_b1n s W hG hs hlt hdt hnt
          · exact qParse_b1 s W hG hs hlt hdt hnt
        · cases hnt : isText (numS s)
          · exact qParse_b2 s W hG hs hlt hdt hnt
          · by_cases h0 : vS (denS s) = 0
            · exact qParse_b3 s W hG hs hlt hdt hnt h0
            · exact qParse_b4 s W hG hs hlt hdt hnt h0 _ rfl (not_good hg (Low.of_redS h0))
      · have he : slash s.data.toList = s.size := by omega
        cases hnt : isText (numS s)
        · exact qParse_b5 s W hG hs he (by rw [numS_whole he] at hnt; exact hnt)
        · exact absurd (good_one he hnt) hg
  · exact ⟨⟨#[]⟩, ⟨#[]⟩, 4, fun W _ => fParse_long s W hs, fun W _ => qParse_long s W hs⟩

end Go.Proofs.YtldohkfomdcpoaaGreatDoor

/- the law FractionTexts: the walk. -/
namespace Go.Proofs.YtldohkfomdcpoaaGreatDoor
open Go.RowKit Fra

theorem tmod13 (m : Int) : -12 ≤ m.tmod 13 ∧ m.tmod 13 ≤ 12 := by
  have h1 := Int.tmod_lt_of_pos m (show (0 : Int) < 13 by decide)
  have h2 := Int.tmod_lt_of_pos (-m) (show (0 : Int) < 13 by decide)
  rw [Int.neg_tmod] at h2
  omega

set_option maxRecDepth 100000 in
set_option maxHeartbeats 16000000 in
theorem ftexts_in (fn fd : ByteArray) (n : Int) (s : ByteArray) (w : World) (hG : Ground w) (h1 : fn.size ≤ 13) (h2 : fd.size ≤ 13) (hsz : s.size ≤ 130 ∨ (65536 < s.size ∧ s.size ≤ 65546)) :
    Calls Tryz.prog 5 #[.agg #[.string fn, .string fd], .int .i64 n, .string s] w fun e w' => e = .returned (.bool true) ∧ Below w.heap.size w w' := by
  have hl : flong 13 [(fn, fd)] = false := flong_false (by simp; omega)
  have HL := Lib.hid hl
  have HSZ := Lib.hid hsz
  have hps : s.size ≤ 130 ∨ 65536 < s.size := by omega
  clear hl
  obtain ⟨c, hc⟩ : ∃ c, c = if (n < -12 ∨ 12 < n) ∧ -400 ≤ n ∧ n ≤ 400 then n.tmod 13 else n := ⟨_, rfl⟩
  have hcr : -12 ≤ c ∧ c ≤ 12 ∨ c < -400 ∨ 400 < c := by
    rw [hc]
    split
    · exact .inl (tmod13 n)
    · omega
  obtain ⟨pu, pv, pe, q1, q2⟩ := power_both fn fd c h1 h2 hcr
  have HP1 := Lib.hid q1
  have HP2 := Lib.hid q2
  clear q1 q2
  obtain ⟨au, av, ae, q1, q2⟩ := parse_both s hps
  have HA1 := Lib.hid q1
  have HA2 := Lib.hid q2
  clear q1 q2
  obtain ⟨ts, q1, q2⟩ := print_both fn fd (by omega) (by omega)
  have HT1 := Lib.hid q1
  have HT2 := Lib.hid q2
  clear q1 q2
  have HAW := Lib.hid awake_ret
  have HC := Lib.hid hc
  clear hc hcr hps
  obtain ⟨W0, hW0⟩ : ∃ W0, W0 = w.alloc (.cells #[.string fn, .string fd] 24) := ⟨_, rfl⟩
  have hS : StL w W0 [(w.heap.size, fn, fd)] := by rw [hW0]; exact StL.one hG _ _
  go_enter Tryz.func5, Tryz.ntmps5
  go_upto_region 1 with fail
  rw [← hW0]
  clear hW0
  go_cut [32] (fun s32 wx => s32 = .bool false ∧ StL w wx [(w.heap.size, fn, fd)])
  case first =>
    rcases HSZ.out with hz | ⟨hz1, hz2⟩
    · have z1 : ¬ (130 : Int) < s.size := by omega
      have z2 : ¬ (65546 : Int) < s.size := by omega
      obtain ⟨fp0, _⟩ := hS.box
      obtain ⟨fx0, fy0, _, _⟩ := fp0.cells
      go_wp2_with fail
      obtain ⟨W1, hW1⟩ : ∃ W1, W1 = W0.alloc (.cells #[.string fn, .string fd] 24) := ⟨_, rfl⟩
      have hc0 : ∀ i, i < 1 → W1.cell? ⟨W0.heap.size, i * 2, none⟩ = some (.string ([(fn, fd)].getD i (⟨#[]⟩, ⟨#[]⟩)).1) ∧ W1.cell? ⟨W0.heap.size, i * 2 + 1, none⟩ = some (.string ([(fn, fd)].getD i (⟨#[]⟩, ⟨#[]⟩)).2) := by rw [hW1]; exact fgreat_cells W0 [(fn, fd)]
      have hS1 : StL w W1 [(w.heap.size, fn, fd)] := by rw [hW1]; exact hS.other _
      rw [← hW1]
      clear fp0 fx0 fy0
      clear hW1 hS
      have hS := hS1
      clear hS1
      refine (rLong_any W1 W0.heap.size 1 [(fn, fd)] rfl (by decide) hc0).mono ?_
      rintro _ _ ⟨rfl, rfl⟩
      clear hc0
      rw [HL.out]
      obtain ⟨fp0, _⟩ := hS.box
      obtain ⟨fx0, fy0, _, _⟩ := fp0.cells
      go_wp2_with fail
      go_meet
      exact ⟨by simp; omega, hS⟩
    · have z1 : (130 : Int) < s.size := by omega
      have z2 : ¬ (s.size : Int) ≤ 65536 := by omega
      have z3 : ¬ (65546 : Int) < s.size := by omega
      obtain ⟨fp0, _⟩ := hS.box
      obtain ⟨fx0, fy0, _, _⟩ := fp0.cells
      go_wp2_with fail
      obtain ⟨W1, hW1⟩ : ∃ W1, W1 = W0.alloc (.cells #[.string fn, .string fd] 24) := ⟨_, rfl⟩
      have hc0 : ∀ i, i < 1 → W1.cell? ⟨W0.heap.size, i * 2, none⟩ = some (.string ([(fn, fd)].getD i (⟨#[]⟩, ⟨#[]⟩)).1) ∧ W1.cell? ⟨W0.heap.size, i * 2 + 1, none⟩ = some (.string ([(fn, fd)].getD i (⟨#[]⟩, ⟨#[]⟩)).2) := by rw [hW1]; exact fgreat_cells W0 [(fn, fd)]
      have hS1 : StL w W1 [(w.heap.size, fn, fd)] := by rw [hW1]; exact hS.other _
      rw [← hW1]
      clear fp0 fx0 fy0
      clear hW1 hS
      have hS := hS1
      clear hS1
      refine (rLong_any W1 W0.heap.size 1 [(fn, fd)] rfl (by decide) hc0).mono ?_
      rintro _ _ ⟨rfl, rfl⟩
      clear hc0
      rw [HL.out]
      obtain ⟨fp0, _⟩ := hS.box
      obtain ⟨fx0, fy0, _, _⟩ := fp0.cells
      go_wp2_with fail
      go_meet
      exact ⟨by simp; omega, hS⟩
  clear hS
  obtain ⟨rfl, hS⟩ := hcut
  obtain ⟨w1, hw⟩ : ∃ W, W = wc := ⟨_, rfl⟩
  rw [← hw] at hS
  rw [← hw]
  clear hw
  go_upto_region 3 with fail
  have hway : ((n < -12 ∧ -400 ≤ n) ∨ (n < -12 ∧ ¬ -400 ≤ n) ∨ (¬ n < -12 ∧ 12 < n ∧ n ≤ 400) ∨ (¬ n < -12 ∧ 12 < n ∧ ¬ n ≤ 400) ∨ (¬ n < -12 ∧ ¬ 12 < n)) := by omega
  rcases hway with ⟨g0, g1⟩ | ⟨g0, g1⟩ | ⟨g0, g1, g2⟩ | ⟨g0, g1, g2⟩ | ⟨g0, g1⟩
  · have HCC := Lib.hid (show c = n.tmod 13 by rw [HC.out, if_pos (by omega)])
    have g9 : n ≤ 400 := by omega
    obtain ⟨fp0, _⟩ := hS.box
    obtain ⟨fx0, fy0, _, _⟩ := fp0.cells
    go_upto_region 5 with fail
    rw [← HCC.out]
    clear fp0 fx0 fy0 g0 g1 g9
    obtain ⟨fp0, _⟩ := hS.box
    obtain ⟨fx0, fy0, _, _⟩ := fp0.cells
    go_wp2_with fail
    clear fp0 fx0 fy0
    refine Calls.mono (Ret.call HP1.out _ hS.g) ?_
    rintro _ w2 ⟨rfl, hB⟩
    replace hS := hS.next hB
    clear hB
    go_upto_region 6 with fail
    obtain ⟨b3, hb3⟩ : ∃ b, b = w2.heap.size := ⟨_, rfl⟩
    obtain ⟨V3, hV3⟩ : ∃ V, V = w2.alloc (.cells #[.string pu, .string pv] 24) := ⟨_, rfl⟩
    have hT : StL w V3 [(b3, pu, pv), (w.heap.size, fn, fd)] := by rw [hV3, hb3]; exact hS.alloc _ _
    rw [← hb3, ← hV3]
    clear hV3 hb3 hS
    have hS := hT
    clear hT
    obtain ⟨fp0, fp1, _⟩ := hS.box
    obtain ⟨fx0, fy0, _, _⟩ := fp0.cells
    obtain ⟨fx1, fy1, _, _⟩ := fp1.cells
    go_wp2_with fail
    clear fp0 fx0 fy0 fp1 fx1 fy1
    refine Calls.mono (Ret.call HP2.out _ hS.g) ?_
    rintro _ w4 ⟨rfl, hB⟩
    replace hS := hS.next hB
    clear hB
    go_upto_region 7 with fail
    obtain ⟨b5, hb5⟩ : ∃ b, b = w4.heap.size := ⟨_, rfl⟩
    obtain ⟨V5, hV5⟩ : ∃ V, V = w4.alloc (.cells #[.string pu, .string pv] 24) := ⟨_, rfl⟩
    have hT : StL w V5 [(b5, pu, pv), (b3, pu, pv), (w.heap.size, fn, fd)] := by rw [hV5, hb5]; exact hS.alloc _ _
    rw [← hb5, ← hV5]
    clear hV5 hb5 hS
    have hS := hT
    clear hT
    obtain ⟨fp0, fp1, fp2, _⟩ := hS.box
    obtain ⟨fx0, fy0, _, _⟩ := fp0.cells
    obtain ⟨fx1, fy1, _, _⟩ := fp1.cells
    obtain ⟨fx2, fy2, _, _⟩ := fp2.cells
    go_wp2_with fail
    clear fp0 fx0 fy0 fp1 fx1 fy1 fp2 fx2 fy2
    refine Calls.mono (Ret.call HA1.out _ hS.g) ?_
    rintro _ w6 ⟨rfl, hB⟩
    replace hS := hS.next hB
    clear hB
    go_upto_region 8 with fail
    obtain ⟨b7, hb7⟩ : ∃ b, b = w6.heap.size := ⟨_, rfl⟩
    obtain ⟨V7, hV7⟩ : ∃ V, V = w6.alloc (.cells #[.string au, .string av] 24) := ⟨_, rfl⟩
    have hT : StL w V7 [(b7, au, av), (b5, pu, pv), (b3, pu, pv), (w.heap.size, fn, fd)] := by rw [hV7, hb7]; exact hS.alloc _ _
    rw [← hb7, ← hV7]
    clear hV7 hb7 hS
    have hS := hT
    clear hT
    obtain ⟨fp0, fp1, fp2, fp3, _⟩ := hS.box
    obtain ⟨fx0, fy0, _, _⟩ := fp0.cells
    obtain ⟨fx1, fy1, _, _⟩ := fp1.cells
    obtain ⟨fx2, fy2, _, _⟩ := fp2.cells
    obtain ⟨fx3, fy3, _, _⟩ := fp3.cells
    go_wp2_with fail
    clear fp0 fx0 fy0 fp1 fx1 fy1 fp2 fx2 fy2 fp3 fx3 fy3
    refine Calls.mono (Ret.call HA2.out _ hS.g) ?_
    rintro _ w8 ⟨rfl, hB⟩
    replace hS := hS.next hB
    clear hB
    go_upto_region 9 with fail
    obtain ⟨b9, hb9⟩ : ∃ b, b = w8.heap.size := ⟨_, rfl⟩
    obtain ⟨V9, hV9⟩ : ∃ V, V = w8.alloc (.cells #[.string au, .string av] 24) := ⟨_, rfl⟩
    have hT : StL w V9 [(b9, au, av), (b7, au, av), (b5, pu, pv), (b3, pu, pv), (w.heap.size, fn, fd)] := by rw [hV9, hb9]; exact hS.alloc _ _
    rw [← hb9, ← hV9]
    clear hV9 hb9 hS
    have hS := hT
    clear hT
    obtain ⟨fp0, fp1, fp2, fp3, fp4, _⟩ := hS.box
    obtain ⟨fx0, fy0, _, _⟩ := fp0.cells
    obtain ⟨fx1, fy1, _, _⟩ := fp1.cells
    obtain ⟨fx2, fy2, _, _⟩ := fp2.cells
    obtain ⟨fx3, fy3, _, _⟩ := fp3.cells
    obtain ⟨fx4, fy4, _, _⟩ := fp4.cells
    have hgu := frac_guards
    have heq := frac_same
    try go_upto_region 9 with fail
    have HS := Lib.hid hS
    clear hS
    go_cut [6] (fun s6 wx => s6 = .bool true ∧ StL w wx [(b9, au, av), (b7, au, av), (b5, pu, pv), (b3, pu, pv), (w.heap.size, fn, fd)])
    case first =>
      go_region_held3 (fun w' => w'.cell? ⟨b9, 0, none⟩ = some (.string au) ∧ w'.cell? ⟨b9, 1, none⟩ = some (.string av) ∧ w'.cell? ⟨b7, 0, none⟩ = some (.string au) ∧ w'.cell? ⟨b7, 1, none⟩ = some (.string av) ∧ w'.cell? ⟨b5, 0, none⟩ = some (.string pu) ∧ w'.cell? ⟨b5, 1, none⟩ = some (.string pv) ∧ w'.cell? ⟨b3, 0, none⟩ = some (.string pu) ∧ w'.cell? ⟨b3, 1, none⟩ = some (.string pv) ∧ w'.cell? ⟨w.heap.size, 0, none⟩ = some (.string fn) ∧ w'.cell? ⟨w.heap.size, 1, none⟩ = some (.string fd))
        (go_keep)
        (first
      | (go_at_call 35;
           (first
             | (with_reducible refine Calls.mono (Ret.call HT1.out _ (by first | exact HS.out.g | exact HS.out.drew.g | exact (HS.out.drewN _).g)) ?_));
           (rintro e WX ⟨rfl, hB1⟩);
           (have HS2 : StL w WX [(b9, au, av), (b7, au, av), (b5, pu, pv), (b3, pu, pv), (w.heap.size, fn, fd)] := (by first | exact HS.out.next hB1 | exact HS.out.next1 hB1 | exact HS.out.nextD hB1));
           (replace HS := Lib.hid HS2);
           (clear hB1 HS2);
           (obtain ⟨fp0, fp1, fp2, fp3, fp4, _⟩ := HS.out.box);
           (obtain ⟨fx0, fy0, _, _⟩ := fp0.cells);
           (obtain ⟨fx1, fy1, _, _⟩ := fp1.cells);
           (obtain ⟨fx2, fy2, _, _⟩ := fp2.cells);
           (obtain ⟨fx3, fy3, _, _⟩ := fp3.cells);
           (obtain ⟨fx4, fy4, _, _⟩ := fp4.cells))
      | (go_at_call 36;
           (first
             | (with_reducible refine Calls.mono (Ret.call HT2.out _ (by first | exact HS.out.g | exact HS.out.drew.g | exact (HS.out.drewN _).g)) ?_));
           (rintro e WX ⟨rfl, hB1⟩);
           (have HS2 : StL w WX [(b9, au, av), (b7, au, av), (b5, pu, pv), (b3, pu, pv), (w.heap.size, fn, fd)] := (by first | exact HS.out.next hB1 | exact HS.out.next1 hB1 | exact HS.out.nextD hB1));
           (replace HS := Lib.hid HS2);
           (clear hB1 HS2);
           (obtain ⟨fp0, fp1, fp2, fp3, fp4, _⟩ := HS.out.box);
           (obtain ⟨fx0, fy0, _, _⟩ := fp0.cells);
           (obtain ⟨fx1, fy1, _, _⟩ := fp1.cells);
           (obtain ⟨fx2, fy2, _, _⟩ := fp2.cells);
           (obtain ⟨fx3, fy3, _, _⟩ := fp3.cells);
           (obtain ⟨fx4, fy4, _, _⟩ := fp4.cells))
      | (go_at_call 7;
           (first
             | (with_reducible refine Calls.mono (Ret.call HAW.out _ (by first | exact HS.out.g | exact HS.out.drew.g | exact (HS.out.drewN _).g)) ?_));
           (rintro e WX ⟨rfl, hB1⟩);
           (have HS2 : StL w WX [(b9, au, av), (b7, au, av), (b5, pu, pv), (b3, pu, pv), (w.heap.size, fn, fd)] := (by first | exact HS.out.next hB1 | exact HS.out.next1 hB1 | exact HS.out.nextD hB1));
           (replace HS := Lib.hid HS2);
           (clear hB1 HS2);
           (obtain ⟨fp0, fp1, fp2, fp3, fp4, _⟩ := HS.out.box);
           (obtain ⟨fx0, fy0, _, _⟩ := fp0.cells);
           (obtain ⟨fx1, fy1, _, _⟩ := fp1.cells);
           (obtain ⟨fx2, fy2, _, _⟩ := fp2.cells);
           (obtain ⟨fx3, fy3, _, _⟩ := fp3.cells);
           (obtain ⟨fx4, fy4, _, _⟩ := fp4.cells)))
      all_goals go_wp2_with fail
      all_goals go_meet
      all_goals exact ⟨rfl, (by first | exact HS.out | exact HS.out.drew | exact HS.out.drewN _)⟩
    clear HS
    clear fp0 fx0 fy0 fp1 fx1 fy1 fp2 fx2 fy2 fp3 fx3 fy3 fp4 fx4 fy4
    obtain ⟨rfl, hS⟩ := hcut
    obtain ⟨w10, hw⟩ : ∃ W, W = wc := ⟨_, rfl⟩
    rw [← hw] at hS
    rw [← hw]
    clear hw
    go_wp2_with fail
    go_ret
    exact ⟨rfl, hS.below⟩
  · have HCC := Lib.hid (show c = n by rw [HC.out, if_neg (by omega)])
    obtain ⟨fp0, _⟩ := hS.box
    obtain ⟨fx0, fy0, _, _⟩ := fp0.cells
    go_upto_region 5 with fail
    obtain rfl : c = n := HCC.out
    clear fp0 fx0 fy0 g0 g1
    obtain ⟨fp0, _⟩ := hS.box
    obtain ⟨fx0, fy0, _, _⟩ := fp0.cells
    go_wp2_with fail
    clear fp0 fx0 fy0
    refine Calls.mono (Ret.call HP1.out _ hS.g) ?_
    rintro _ w2 ⟨rfl, hB⟩
    replace hS := hS.next hB
    clear hB
    go_upto_region 6 with fail
    obtain ⟨b3, hb3⟩ : ∃ b, b = w2.heap.size := ⟨_, rfl⟩
    obtain ⟨V3, hV3⟩ : ∃ V, V = w2.alloc (.cells #[.string pu, .string pv] 24) := ⟨_, rfl⟩
    have hT : StL w V3 [(b3, pu, pv), (w.heap.size, fn, fd)] := by rw [hV3, hb3]; exact hS.alloc _ _
    rw [← hb3, ← hV3]
    clear hV3 hb3 hS
    have hS := hT
    clear hT
    obtain ⟨fp0, fp1, _⟩ := hS.box
    obtain ⟨fx0, fy0, _, _⟩ := fp0.cells
    obtain ⟨fx1, fy1, _, _⟩ := fp1.cells
    go_wp2_with fail
    clear fp0 fx0 fy0 fp1 fx1 fy1
    refine Calls.mono (Ret.call HP2.out _ hS.g) ?_
    rintro _ w4 ⟨rfl, hB⟩
    replace hS := hS.next hB
    clear hB
    go_upto_region 7 with fail
    obtain ⟨b5, hb5⟩ : ∃ b, b = w4.heap.size := ⟨_, rfl⟩
    obtain ⟨V5, hV5⟩ : ∃ V, V = w4.alloc (.cells #[.string pu, .string pv] 24) := ⟨_, rfl⟩
    have hT : StL w V5 [(b5, pu, pv), (b3, pu, pv), (w.heap.size, fn, fd)] := by rw [hV5, hb5]; exact hS.alloc _ _
    rw [← hb5, ← hV5]
    clear hV5 hb5 hS
    have hS := hT
    clear hT
    obtain ⟨fp0, fp1, fp2, _⟩ := hS.box
    obtain ⟨fx0, fy0, _, _⟩ := fp0.cells
    obtain ⟨fx1, fy1, _, _⟩ := fp1.cells
    obtain ⟨fx2, fy2, _, _⟩ := fp2.cells
    go_wp2_with fail
    clear fp0 fx0 fy0 fp1 fx1 fy1 fp2 fx2 fy2
    refine Calls.mono (Ret.call HA1.out _ hS.g) ?_
    rintro _ w6 ⟨rfl, hB⟩
    replace hS := hS.next hB
    clear hB
    go_upto_region 8 with fail
    obtain ⟨b7, hb7⟩ : ∃ b, b = w6.heap.size := ⟨_, rfl⟩
    obtain ⟨V7, hV7⟩ : ∃ V, V = w6.alloc (.cells #[.string au, .string av] 24) := ⟨_, rfl⟩
    have hT : StL w V7 [(b7, au, av), (b5, pu, pv), (b3, pu, pv), (w.heap.size, fn, fd)] := by rw [hV7, hb7]; exact hS.alloc _ _
    rw [← hb7, ← hV7]
    clear hV7 hb7 hS
    have hS := hT
    clear hT
    obtain ⟨fp0, fp1, fp2, fp3, _⟩ := hS.box
    obtain ⟨fx0, fy0, _, _⟩ := fp0.cells
    obtain ⟨fx1, fy1, _, _⟩ := fp1.cells
    obtain ⟨fx2, fy2, _, _⟩ := fp2.cells
    obtain ⟨fx3, fy3, _, _⟩ := fp3.cells
    go_wp2_with fail
    clear fp0 fx0 fy0 fp1 fx1 fy1 fp2 fx2 fy2 fp3 fx3 fy3
    refine Calls.mono (Ret.call HA2.out _ hS.g) ?_
    rintro _ w8 ⟨rfl, hB⟩
    replace hS := hS.next hB
    clear hB
    go_upto_region 9 with fail
    obtain ⟨b9, hb9⟩ : ∃ b, b = w8.heap.size := ⟨_, rfl⟩
    obtain ⟨V9, hV9⟩ : ∃ V, V = w8.alloc (.cells #[.string au, .string av] 24) := ⟨_, rfl⟩
    have hT : StL w V9 [(b9, au, av), (b7, au, av), (b5, pu, pv), (b3, pu, pv), (w.heap.size, fn, fd)] := by rw [hV9, hb9]; exact hS.alloc _ _
    rw [← hb9, ← hV9]
    clear hV9 hb9 hS
    have hS := hT
    clear hT
    obtain ⟨fp0, fp1, fp2, fp3, fp4, _⟩ := hS.box
    obtain ⟨fx0, fy0, _, _⟩ := fp0.cells
    obtain ⟨fx1, fy1, _, _⟩ := fp1.cells
    obtain ⟨fx2, fy2, _, _⟩ := fp2.cells
    obtain ⟨fx3, fy3, _, _⟩ := fp3.cells
    obtain ⟨fx4, fy4, _, _⟩ := fp4.cells
    have hgu := frac_guards
    have heq := frac_same
    try go_upto_region 9 with fail
    have HS := Lib.hid hS
    clear hS
    go_cut [6] (fun s6 wx => s6 = .bool true ∧ StL w wx [(b9, au, av), (b7, au, av), (b5, pu, pv), (b3, pu, pv), (w.heap.size, fn, fd)])
    case first =>
      go_region_held3 (fun w' => w'.cell? ⟨b9, 0, none⟩ = some (.string au) ∧ w'.cell? ⟨b9, 1, none⟩ = some (.string av) ∧ w'.cell? ⟨b7, 0, none⟩ = some (.string au) ∧ w'.cell? ⟨b7, 1, none⟩ = some (.string av) ∧ w'.cell? ⟨b5, 0, none⟩ = some (.string pu) ∧ w'.cell? ⟨b5, 1, none⟩ = some (.string pv) ∧ w'.cell? ⟨b3, 0, none⟩ = some (.string pu) ∧ w'.cell? ⟨b3, 1, none⟩ = some (.string pv) ∧ w'.cell? ⟨w.heap.size, 0, none⟩ = some (.string fn) ∧ w'.cell? ⟨w.heap.size, 1, none⟩ = some (.string fd))
        (go_keep)
        (first
      | (go_at_call 35;
           (first
             | (with_reducible refine Calls.mono (Ret.call HT1.out _ (by first | exact HS.out.g | exact HS.out.drew.g | exact (HS.out.drewN _).g)) ?_));
           (rintro e WX ⟨rfl, hB1⟩);
           (have HS2 : StL w WX [(b9, au, av), (b7, au, av), (b5, pu, pv), (b3, pu, pv), (w.heap.size, fn, fd)] := (by first | exact HS.out.next hB1 | exact HS.out.next1 hB1 | exact HS.out.nextD hB1));
           (replace HS := Lib.hid HS2);
           (clear hB1 HS2);
           (obtain ⟨fp0, fp1, fp2, fp3, fp4, _⟩ := HS.out.box);
           (obtain ⟨fx0, fy0, _, _⟩ := fp0.cells);
           (obtain ⟨fx1, fy1, _, _⟩ := fp1.cells);
           (obtain ⟨fx2, fy2, _, _⟩ := fp2.cells);
           (obtain ⟨fx3, fy3, _, _⟩ := fp3.cells);
           (obtain ⟨fx4, fy4, _, _⟩ := fp4.cells))
      | (go_at_call 36;
           (first
             | (with_reducible refine Calls.mono (Ret.call HT2.out _ (by first | exact HS.out.g | exact HS.out.drew.g | exact (HS.out.drewN _).g)) ?_));
           (rintro e WX ⟨rfl, hB1⟩);
           (have HS2 : StL w WX [(b9, au, av), (b7, au, av), (b5, pu, pv), (b3, pu, pv), (w.heap.size, fn, fd)] := (by first | exact HS.out.next hB1 | exact HS.out.next1 hB1 | exact HS.out.nextD hB1));
           (replace HS := Lib.hid HS2);
           (clear hB1 HS2);
           (obtain ⟨fp0, fp1, fp2, fp3, fp4, _⟩ := HS.out.box);
           (obtain ⟨fx0, fy0, _, _⟩ := fp0.cells);
           (obtain ⟨fx1, fy1, _, _⟩ := fp1.cells);
           (obtain ⟨fx2, fy2, _, _⟩ := fp2.cells);
           (obtain ⟨fx3, fy3, _, _⟩ := fp3.cells);
           (obtain ⟨fx4, fy4, _, _⟩ := fp4.cells))
      | (go_at_call 7;
           (first
             | (with_reducible refine Calls.mono (Ret.call HAW.out _ (by first | exact HS.out.g | exact HS.out.drew.g | exact (HS.out.drewN _).g)) ?_));
           (rintro e WX ⟨rfl, hB1⟩);
           (have HS2 : StL w WX [(b9, au, av), (b7, au, av), (b5, pu, pv), (b3, pu, pv), (w.heap.size, fn, fd)] := (by first | exact HS.out.next hB1 | exact HS.out.next1 hB1 | exact HS.out.nextD hB1));
           (replace HS := Lib.hid HS2);
           (clear hB1 HS2);
           (obtain ⟨fp0, fp1, fp2, fp3, fp4, _⟩ := HS.out.box);
           (obtain ⟨fx0, fy0, _, _⟩ := fp0.cells);
           (obtain ⟨fx1, fy1, _, _⟩ := fp1.cells);
           (obtain ⟨fx2, fy2, _, _⟩ := fp2.cells);
           (obtain ⟨fx3, fy3, _, _⟩ := fp3.cells);
           (obtain ⟨fx4, fy4, _, _⟩ := fp4.cells)))
      all_goals go_wp2_with fail
      all_goals go_meet
      all_goals exact ⟨rfl, (by first | exact HS.out | exact HS.out.drew | exact HS.out.drewN _)⟩
    clear HS
    clear fp0 fx0 fy0 fp1 fx1 fy1 fp2 fx2 fy2 fp3 fx3 fy3 fp4 fx4 fy4
    obtain ⟨rfl, hS⟩ := hcut
    obtain ⟨w10, hw⟩ : ∃ W, W = wc := ⟨_, rfl⟩
    rw [← hw] at hS
    rw [← hw]
    clear hw
    go_wp2_with fail
    go_ret
    exact ⟨rfl, hS.below⟩
  · have HCC := Lib.hid (show c = n.tmod 13 by rw [HC.out, if_pos (by omega)])
    have g9 : -400 ≤ n := by omega
    obtain ⟨fp0, _⟩ := hS.box
    obtain ⟨fx0, fy0, _, _⟩ := fp0.cells
    go_upto_region 5 with fail
    rw [← HCC.out.trans (Int.tmod_eq_emod_of_nonneg (by omega))]
    clear fp0 fx0 fy0 g0 g1 g2 g9
    obtain ⟨fp0, _⟩ := hS.box
    obtain ⟨fx0, fy0, _, _⟩ := fp0.cells
    go_wp2_with fail
    clear fp0 fx0 fy0
    refine Calls.mono (Ret.call HP1.out _ hS.g) ?_
    rintro _ w2 ⟨rfl, hB⟩
    replace hS := hS.next hB
    clear hB
    go_upto_region 6 with fail
    obtain ⟨b3, hb3⟩ : ∃ b, b = w2.heap.size := ⟨_, rfl⟩
    obtain ⟨V3, hV3⟩ : ∃ V, V = w2.alloc (.cells #[.string pu, .string pv] 24) := ⟨_, rfl⟩
    have hT : StL w V3 [(b3, pu, pv), (w.heap.size, fn, fd)] := by rw [hV3, hb3]; exact hS.alloc _ _
    rw [← hb3, ← hV3]
    clear hV3 hb3 hS
    have hS := hT
    clear hT
    obtain ⟨fp0, fp1, _⟩ := hS.box
    obtain ⟨fx0, fy0, _, _⟩ := fp0.cells
    obtain ⟨fx1, fy1, _, _⟩ := fp1.cells
    go_wp2_with fail
    clear fp0 fx0 fy0 fp1 fx1 fy1
    refine Calls.mono (Ret.call HP2.out _ hS.g) ?_
    rintro _ w4 ⟨rfl, hB⟩
    replace hS := hS.next hB
    clear hB
    go_upto_region 7 with fail
    obtain ⟨b5, hb5⟩ : ∃ b, b = w4.heap.size := ⟨_, rfl⟩
    obtain ⟨V5, hV5⟩ : ∃ V, V = w4.alloc (.cells #[.string pu, .string pv] 24) := ⟨_, rfl⟩
    have hT : StL w V5 [(b5, pu, pv), (b3, pu, pv), (w.heap.size, fn, fd)] := by rw [hV5, hb5]; exact hS.alloc _ _
    rw [← hb5, ← hV5]
    clear hV5 hb5 hS
    have hS := hT
    clear hT
    obtain ⟨fp0, fp1, fp2, _⟩ := hS.box
    obtain ⟨fx0, fy0, _, _⟩ := fp0.cells
    obtain ⟨fx1, fy1, _, _⟩ := fp1.cells
    obtain ⟨fx2, fy2, _, _⟩ := fp2.cells
    go_wp2_with fail
    clear fp0 fx0 fy0 fp1 fx1 fy1 fp2 fx2 fy2
    refine Calls.mono (Ret.call HA1.out _ hS.g) ?_
    rintro _ w6 ⟨rfl, hB⟩
    replace hS := hS.next hB
    clear hB
    go_upto_region 8 with fail
    obtain ⟨b7, hb7⟩ : ∃ b, b = w6.heap.size := ⟨_, rfl⟩
    obtain ⟨V7, hV7⟩ : ∃ V, V = w6.alloc (.cells #[.string au, .string av] 24) := ⟨_, rfl⟩
    have hT : StL w V7 [(b7, au, av), (b5, pu, pv), (b3, pu, pv), (w.heap.size, fn, fd)] := by rw [hV7, hb7]; exact hS.alloc _ _
    rw [← hb7, ← hV7]
    clear hV7 hb7 hS
    have hS := hT
    clear hT
    obtain ⟨fp0, fp1, fp2, fp3, _⟩ := hS.box
    obtain ⟨fx0, fy0, _, _⟩ := fp0.cells
    obtain ⟨fx1, fy1, _, _⟩ := fp1.cells
    obtain ⟨fx2, fy2, _, _⟩ := fp2.cells
    obtain ⟨fx3, fy3, _, _⟩ := fp3.cells
    go_wp2_with fail
    clear fp0 fx0 fy0 fp1 fx1 fy1 fp2 fx2 fy2 fp3 fx3 fy3
    refine Calls.mono (Ret.call HA2.out _ hS.g) ?_
    rintro _ w8 ⟨rfl, hB⟩
    replace hS := hS.next hB
    clear hB
    go_upto_region 9 with fail
    obtain ⟨b9, hb9⟩ : ∃ b, b = w8.heap.size := ⟨_, rfl⟩
    obtain ⟨V9, hV9⟩ : ∃ V, V = w8.alloc (.cells #[.string au, .string av] 24) := ⟨_, rfl⟩
    have hT : StL w V9 [(b9, au, av), (b7, au, av), (b5, pu, pv), (b3, pu, pv), (w.heap.size, fn, fd)] := by rw [hV9, hb9]; exact hS.alloc _ _
    rw [← hb9, ← hV9]
    clear hV9 hb9 hS
    have hS := hT
    clear hT
    obtain ⟨fp0, fp1, fp2, fp3, fp4, _⟩ := hS.box
    obtain ⟨fx0, fy0, _, _⟩ := fp0.cells
    obtain ⟨fx1, fy1, _, _⟩ := fp1.cells
    obtain ⟨fx2, fy2, _, _⟩ := fp2.cells
    obtain ⟨fx3, fy3, _, _⟩ := fp3.cells
    obtain ⟨fx4, fy4, _, _⟩ := fp4.cells
    have hgu := frac_guards
    have heq := frac_same
    try go_upto_region 9 with fail
    have HS := Lib.hid hS
    clear hS
    go_cut [6] (fun s6 wx => s6 = .bool true ∧ StL w wx [(b9, au, av), (b7, au, av), (b5, pu, pv), (b3, pu, pv), (w.heap.size, fn, fd)])
    case first =>
      go_region_held3 (fun w' => w'.cell? ⟨b9, 0, none⟩ = some (.string au) ∧ w'.cell? ⟨b9, 1, none⟩ = some (.string av) ∧ w'.cell? ⟨b7, 0, none⟩ = some (.string au) ∧ w'.cell? ⟨b7, 1, none⟩ = some (.string av) ∧ w'.cell? ⟨b5, 0, none⟩ = some (.string pu) ∧ w'.cell? ⟨b5, 1, none⟩ = some (.string pv) ∧ w'.cell? ⟨b3, 0, none⟩ = some (.string pu) ∧ w'.cell? ⟨b3, 1, none⟩ = some (.string pv) ∧ w'.cell? ⟨w.heap.size, 0, none⟩ = some (.string fn) ∧ w'.cell? ⟨w.heap.size, 1, none⟩ = some (.string fd))
        (go_keep)
        (first
      | (go_at_call 35;
           (first
             | (with_reducible refine Calls.mono (Ret.call HT1.out _ (by first | exact HS.out.g | exact HS.out.drew.g | exact (HS.out.drewN _).g)) ?_));
           (rintro e WX ⟨rfl, hB1⟩);
           (have HS2 : StL w WX [(b9, au, av), (b7, au, av), (b5, pu, pv), (b3, pu, pv), (w.heap.size, fn, fd)] := (by first | exact HS.out.next hB1 | exact HS.out.next1 hB1 | exact HS.out.nextD hB1));
           (replace HS := Lib.hid HS2);
           (clear hB1 HS2);
           (obtain ⟨fp0, fp1, fp2, fp3, fp4, _⟩ := HS.out.box);
           (obtain ⟨fx0, fy0, _, _⟩ := fp0.cells);
           (obtain ⟨fx1, fy1, _, _⟩ := fp1.cells);
           (obtain ⟨fx2, fy2, _, _⟩ := fp2.cells);
           (obtain ⟨fx3, fy3, _, _⟩ := fp3.cells);
           (obtain ⟨fx4, fy4, _, _⟩ := fp4.cells))
      | (go_at_call 36;
           (first
             | (with_reducible refine Calls.mono (Ret.call HT2.out _ (by first | exact HS.out.g | exact HS.out.drew.g | exact (HS.out.drewN _).g)) ?_));
           (rintro e WX ⟨rfl, hB1⟩);
           (have HS2 : StL w WX [(b9, au, av), (b7, au, av), (b5, pu, pv), (b3, pu, pv), (w.heap.size, fn, fd)] := (by first | exact HS.out.next hB1 | exact HS.out.next1 hB1 | exact HS.out.nextD hB1));
           (replace HS := Lib.hid HS2);
           (clear hB1 HS2);
           (obtain ⟨fp0, fp1, fp2, fp3, fp4, _⟩ := HS.out.box);
           (obtain ⟨fx0, fy0, _, _⟩ := fp0.cells);
           (obtain ⟨fx1, fy1, _, _⟩ := fp1.cells);
           (obtain ⟨fx2, fy2, _, _⟩ := fp2.cells);
           (obtain ⟨fx3, fy3, _, _⟩ := fp3.cells);
           (obtain ⟨fx4, fy4, _, _⟩ := fp4.cells))
      | (go_at_call 7;
           (first
             | (with_reducible refine Calls.mono (Ret.call HAW.out _ (by first | exact HS.out.g | exact HS.out.drew.g | exact (HS.out.drewN _).g)) ?_));
           (rintro e WX ⟨rfl, hB1⟩);
           (have HS2 : StL w WX [(b9, au, av), (b7, au, av), (b5, pu, pv), (b3, pu, pv), (w.heap.size, fn, fd)] := (by first | exact HS.out.next hB1 | exact HS.out.next1 hB1 | exact HS.out.nextD hB1));
           (replace HS := Lib.hid HS2);
           (clear hB1 HS2);
           (obtain ⟨fp0, fp1, fp2, fp3, fp4, _⟩ := HS.out.box);
           (obtain ⟨fx0, fy0, _, _⟩ := fp0.cells);
           (obtain ⟨fx1, fy1, _, _⟩ := fp1.cells);
           (obtain ⟨fx2, fy2, _, _⟩ := fp2.cells);
           (obtain ⟨fx3, fy3, _, _⟩ := fp3.cells);
           (obtain ⟨fx4, fy4, _, _⟩ := fp4.cells)))
      all_goals go_wp2_with fail
      all_goals go_meet
      all_goals exact ⟨rfl, (by first | exact HS.out | exact HS.out.drew | exact HS.out.drewN _)⟩
    clear HS
    clear fp0 fx0 fy0 fp1 fx1 fy1 fp2 fx2 fy2 fp3 fx3 fy3 fp4 fx4 fy4
    obtain ⟨rfl, hS⟩ := hcut
    obtain ⟨w10, hw⟩ : ∃ W, W = wc := ⟨_, rfl⟩
    rw [← hw] at hS
    rw [← hw]
    clear hw
    go_wp2_with fail
    go_ret
    exact ⟨rfl, hS.below⟩
  · have HCC := Lib.hid (show c = n by rw [HC.out, if_neg (by omega)])
    have g9 : -400 ≤ n := by omega
    obtain ⟨fp0, _⟩ := hS.box
    obtain ⟨fx0, fy0, _, _⟩ := fp0.cells
    go_upto_region 5 with fail
    obtain rfl : c = n := HCC.out
    clear fp0 fx0 fy0 g0 g1 g2 g9
    obtain ⟨fp0, _⟩ := hS.box
    obtain ⟨fx0, fy0, _, _⟩ := fp0.cells
    go_wp2_with fail
    clear fp0 fx0 fy0
    refine Calls.mono (Ret.call HP1.out _ hS.g) ?_
    rintro _ w2 ⟨rfl, hB⟩
    replace hS := hS.next hB
    clear hB
    go_upto_region 6 with fail
    obtain ⟨b3, hb3⟩ : ∃ b, b = w2.heap.size := ⟨_, rfl⟩
    obtain ⟨V3, hV3⟩ : ∃ V, V = w2.alloc (.cells #[.string pu, .string pv] 24) := ⟨_, rfl⟩
    have hT : StL w V3 [(b3, pu, pv), (w.heap.size, fn, fd)] := by rw [hV3, hb3]; exact hS.alloc _ _
    rw [← hb3, ← hV3]
    clear hV3 hb3 hS
    have hS := hT
    clear hT
    obtain ⟨fp0, fp1, _⟩ := hS.box
    obtain ⟨fx0, fy0, _, _⟩ := fp0.cells
    obtain ⟨fx1, fy1, _, _⟩ := fp1.cells
    go_wp2_with fail
    clear fp0 fx0 fy0 fp1 fx1 fy1
    refine Calls.mono (Ret.call HP2.out _ hS.g) ?_
    rintro _ w4 ⟨rfl, hB⟩
    replace hS := hS.next hB
    clear hB
    go_upto_region 7 with fail
    obtain ⟨b5, hb5⟩ : ∃ b, b = w4.heap.size := ⟨_, rfl⟩
    obtain ⟨V5, hV5⟩ : ∃ V, V = w4.alloc (.cells #[.string pu, .string pv] 24) := ⟨_, rfl⟩
    have hT : StL w V5 [(b5, pu, pv), (b3, pu, pv), (w.heap.size, fn, fd)] := by rw [hV5, hb5]; exact hS.alloc _ _
    rw [← hb5, ← hV5]
    clear hV5 hb5 hS
    have hS := hT
    clear hT
    obtain ⟨fp0, fp1, fp2, _⟩ := hS.box
    obtain ⟨fx0, fy0, _, _⟩ := fp0.cells
    obtain ⟨fx1, fy1, _, _⟩ := fp1.cells
    obtain ⟨fx2, fy2, _, _⟩ := fp2.cells
    go_wp2_with fail
    clear fp0 fx0 fy0 fp1 fx1 fy1 fp2 fx2 fy2
    refine Calls.mono (Ret.call HA1.out _ hS.g) ?_
    rintro _ w6 ⟨rfl, hB⟩
    replace hS := hS.next hB
    clear hB
    go_upto_region 8 with fail
    obtain ⟨b7, hb7⟩ : ∃ b, b = w6.heap.size := ⟨_, rfl⟩
    obtain ⟨V7, hV7⟩ : ∃ V, V = w6.alloc (.cells #[.string au, .string av] 24) := ⟨_, rfl⟩
    have hT : StL w V7 [(b7, au, av), (b5, pu, pv), (b3, pu, pv), (w.heap.size, fn, fd)] := by rw [hV7, hb7]; exact hS.alloc _ _
    rw [← hb7, ← hV7]
    clear hV7 hb7 hS
    have hS := hT
    clear hT
    obtain ⟨fp0, fp1, fp2, fp3, _⟩ := hS.box
    obtain ⟨fx0, fy0, _, _⟩ := fp0.cells
    obtain ⟨fx1, fy1, _, _⟩ := fp1.cells
    obtain ⟨fx2, fy2, _, _⟩ := fp2.cells
    obtain ⟨fx3, fy3, _, _⟩ := fp3.cells
    go_wp2_with fail
    clear fp0 fx0 fy0 fp1 fx1 fy1 fp2 fx2 fy2 fp3 fx3 fy3
    refine Calls.mono (Ret.call HA2.out _ hS.g) ?_
    rintro _ w8 ⟨rfl, hB⟩
    replace hS := hS.next hB
    clear hB
    go_upto_region 9 with fail
    obtain ⟨b9, hb9⟩ : ∃ b, b = w8.heap.size := ⟨_, rfl⟩
    obtain ⟨V9, hV9⟩ : ∃ V, V = w8.alloc (.cells #[.string au, .string av] 24) := ⟨_, rfl⟩
    have hT : StL w V9 [(b9, au, av), (b7, au, av), (b5, pu, pv), (b3, pu, pv), (w.heap.size, fn, fd)] := by rw [hV9, hb9]; exact hS.alloc _ _
    rw [← hb9, ← hV9]
    clear hV9 hb9 hS
    have hS := hT
    clear hT
    obtain ⟨fp0, fp1, fp2, fp3, fp4, _⟩ := hS.box
    obtain ⟨fx0, fy0, _, _⟩ := fp0.cells
    obtain ⟨fx1, fy1, _, _⟩ := fp1.cells
    obtain ⟨fx2, fy2, _, _⟩ := fp2.cells
    obtain ⟨fx3, fy3, _, _⟩ := fp3.cells
    obtain ⟨fx4, fy4, _, _⟩ := fp4.cells
    have hgu := frac_guards
    have heq := frac_same
    try go_upto_region 9 with fail
    have HS := Lib.hid hS
    clear hS
    go_cut [6] (fun s6 wx => s6 = .bool true ∧ StL w wx [(b9, au, av), (b7, au, av), (b5, pu, pv), (b3, pu, pv), (w.heap.size, fn, fd)])
    case first =>
      go_region_held3 (fun w' => w'.cell? ⟨b9, 0, none⟩ = some (.string au) ∧ w'.cell? ⟨b9, 1, none⟩ = some (.string av) ∧ w'.cell? ⟨b7, 0, none⟩ = some (.string au) ∧ w'.cell? ⟨b7, 1, none⟩ = some (.string av) ∧ w'.cell? ⟨b5, 0, none⟩ = some (.string pu) ∧ w'.cell? ⟨b5, 1, none⟩ = some (.string pv) ∧ w'.cell? ⟨b3, 0, none⟩ = some (.string pu) ∧ w'.cell? ⟨b3, 1, none⟩ = some (.string pv) ∧ w'.cell? ⟨w.heap.size, 0, none⟩ = some (.string fn) ∧ w'.cell? ⟨w.heap.size, 1, none⟩ = some (.string fd))
        (go_keep)
        (first
      | (go_at_call 35;
           (first
             | (with_reducible refine Calls.mono (Ret.call HT1.out _ (by first | exact HS.out.g | exact HS.out.drew.g | exact (HS.out.drewN _).g)) ?_));
           (rintro e WX ⟨rfl, hB1⟩);
           (have HS2 : StL w WX [(b9, au, av), (b7, au, av), (b5, pu, pv), (b3, pu, pv), (w.heap.size, fn, fd)] := (by first | exact HS.out.next hB1 | exact HS.out.next1 hB1 | exact HS.out.nextD hB1));
           (replace HS := Lib.hid HS2);
           (clear hB1 HS2);
           (obtain ⟨fp0, fp1, fp2, fp3, fp4, _⟩ := HS.out.box);
           (obtain ⟨fx0, fy0, _, _⟩ := fp0.cells);
           (obtain ⟨fx1, fy1, _, _⟩ := fp1.cells);
           (obtain ⟨fx2, fy2, _, _⟩ := fp2.cells);
           (obtain ⟨fx3, fy3, _, _⟩ := fp3.cells);
           (obtain ⟨fx4, fy4, _, _⟩ := fp4.cells))
      | (go_at_call 36;
           (first
             | (with_reducible refine Calls.mono (Ret.call HT2.out _ (by first | exact HS.out.g | exact HS.out.drew.g | exact (HS.out.drewN _).g)) ?_));
           (rintro e WX ⟨rfl, hB1⟩);
           (have HS2 : StL w WX [(b9, au, av), (b7, au, av), (b5, pu, pv), (b3, pu, pv), (w.heap.size, fn, fd)] := (by first | exact HS.out.next hB1 | exact HS.out.next1 hB1 | exact HS.out.nextD hB1));
           (replace HS := Lib.hid HS2);
           (clear hB1 HS2);
           (obtain ⟨fp0, fp1, fp2, fp3, fp4, _⟩ := HS.out.box);
           (obtain ⟨fx0, fy0, _, _⟩ := fp0.cells);
           (obtain ⟨fx1, fy1, _, _⟩ := fp1.cells);
           (obtain ⟨fx2, fy2, _, _⟩ := fp2.cells);
           (obtain ⟨fx3, fy3, _, _⟩ := fp3.cells);
           (obtain ⟨fx4, fy4, _, _⟩ := fp4.cells))
      | (go_at_call 7;
           (first
             | (with_reducible refine Calls.mono (Ret.call HAW.out _ (by first | exact HS.out.g | exact HS.out.drew.g | exact (HS.out.drewN _).g)) ?_));
           (rintro e WX ⟨rfl, hB1⟩);
           (have HS2 : StL w WX [(b9, au, av), (b7, au, av), (b5, pu, pv), (b3, pu, pv), (w.heap.size, fn, fd)] := (by first | exact HS.out.next hB1 | exact HS.out.next1 hB1 | exact HS.out.nextD hB1));
           (replace HS := Lib.hid HS2);
           (clear hB1 HS2);
           (obtain ⟨fp0, fp1, fp2, fp3, fp4, _⟩ := HS.out.box);
           (obtain ⟨fx0, fy0, _, _⟩ := fp0.cells);
           (obtain ⟨fx1, fy1, _, _⟩ := fp1.cells);
           (obtain ⟨fx2, fy2, _, _⟩ := fp2.cells);
           (obtain ⟨fx3, fy3, _, _⟩ := fp3.cells);
           (obtain ⟨fx4, fy4, _, _⟩ := fp4.cells)))
      all_goals go_wp2_with fail
      all_goals go_meet
      all_goals exact ⟨rfl, (by first | exact HS.out | exact HS.out.drew | exact HS.out.drewN _)⟩
    clear HS
    clear fp0 fx0 fy0 fp1 fx1 fy1 fp2 fx2 fy2 fp3 fx3 fy3 fp4 fx4 fy4
    obtain ⟨rfl, hS⟩ := hcut
    obtain ⟨w10, hw⟩ : ∃ W, W = wc := ⟨_, rfl⟩
    rw [← hw] at hS
    rw [← hw]
    clear hw
    go_wp2_with fail
    go_ret
    exact ⟨rfl, hS.below⟩
  · have HCC := Lib.hid (show c = n by rw [HC.out, if_neg (by omega)])
    obtain ⟨fp0, _⟩ := hS.box
    obtain ⟨fx0, fy0, _, _⟩ := fp0.cells
    go_upto_region 5 with fail
    obtain rfl : c = n := HCC.out
    clear fp0 fx0 fy0 g0 g1
    obtain ⟨fp0, _⟩ := hS.box
    obtain ⟨fx0, fy0, _, _⟩ := fp0.cells
    go_wp2_with fail
    clear fp0 fx0 fy0
    refine Calls.mono (Ret.call HP1.out _ hS.g) ?_
    rintro _ w2 ⟨rfl, hB⟩
    replace hS := hS.next hB
    clear hB
    go_upto_region 6 with fail
    obtain ⟨b3, hb3⟩ : ∃ b, b = w2.heap.size := ⟨_, rfl⟩
    obtain ⟨V3, hV3⟩ : ∃ V, V = w2.alloc (.cells #[.string pu, .string pv] 24) := ⟨_, rfl⟩
    have hT : StL w V3 [(b3, pu, pv), (w.heap.size, fn, fd)] := by rw [hV3, hb3]; exact hS.alloc _ _
    rw [← hb3, ← hV3]
    clear hV3 hb3 hS
    have hS := hT
    clear hT
    obtain ⟨fp0, fp1, _⟩ := hS.box
    obtain ⟨fx0, fy0, _, _⟩ := fp0.cells
    obtain ⟨fx1, fy1, _, _⟩ := fp1.cells
    go_wp2_with fail
    clear fp0 fx0 fy0 fp1 fx1 fy1
    refine Calls.mono (Ret.call HP2.out _ hS.g) ?_
    rintro _ w4 ⟨rfl, hB⟩
    replace hS := hS.next hB
    clear hB
    go_upto_region 7 with fail
    obtain ⟨b5, hb5⟩ : ∃ b, b = w4.heap.size := ⟨_, rfl⟩
    obtain ⟨V5, hV5⟩ : ∃ V, V = w4.alloc (.cells #[.string pu, .string pv] 24) := ⟨_, rfl⟩
    have hT : StL w V5 [(b5, pu, pv), (b3, pu, pv), (w.heap.size, fn, fd)] := by rw [hV5, hb5]; exact hS.alloc _ _
    rw [← hb5, ← hV5]
    clear hV5 hb5 hS
    have hS := hT
    clear hT
    obtain ⟨fp0, fp1, fp2, _⟩ := hS.box
    obtain ⟨fx0, fy0, _, _⟩ := fp0.cells
    obtain ⟨fx1, fy1, _, _⟩ := fp1.cells
    obtain ⟨fx2, fy2, _, _⟩ := fp2.cells
    go_wp2_with fail
    clear fp0 fx0 fy0 fp1 fx1 fy1 fp2 fx2 fy2
    refine Calls.mono (Ret.call HA1.out _ hS.g) ?_
    rintro _ w6 ⟨rfl, hB⟩
    replace hS := hS.next hB
    clear hB
    go_upto_region 8 with fail
    obtain ⟨b7, hb7⟩ : ∃ b, b = w6.heap.size := ⟨_, rfl⟩
    obtain ⟨V7, hV7⟩ : ∃ V, V = w6.alloc (.cells #[.string au, .string av] 24) := ⟨_, rfl⟩
    have hT : StL w V7 [(b7, au, av), (b5, pu, pv), (b3, pu, pv), (w.heap.size, fn, fd)] := by rw [hV7, hb7]; exact hS.alloc _ _
    rw [← hb7, ← hV7]
    clear hV7 hb7 hS
    have hS := hT
    clear hT
    obtain ⟨fp0, fp1, fp2, fp3, _⟩ := hS.box
    obtain ⟨fx0, fy0, _, _⟩ := fp0.cells
    obtain ⟨fx1, fy1, _, _⟩ := fp1.cells
    obtain ⟨fx2, fy2, _, _⟩ := fp2.cells
    obtain ⟨fx3, fy3, _, _⟩ := fp3.cells
    go_wp2_with fail
    clear fp0 fx0 fy0 fp1 fx1 fy1 fp2 fx2 fy2 fp3 fx3 fy3
    refine Calls.mono (Ret.call HA2.out _ hS.g) ?_
    rintro _ w8 ⟨rfl, hB⟩
    replace hS := hS.next hB
    clear hB
    go_upto_region 9 with fail
    obtain ⟨b9, hb9⟩ : ∃ b, b = w8.heap.size := ⟨_, rfl⟩
    obtain ⟨V9, hV9⟩ : ∃ V, V = w8.alloc (.cells #[.string au, .string av] 24) := ⟨_, rfl⟩
    have hT : StL w V9 [(b9, au, av), (b7, au, av), (b5, pu, pv), (b3, pu, pv), (w.heap.size, fn, fd)] := by rw [hV9, hb9]; exact hS.alloc _ _
    rw [← hb9, ← hV9]
    clear hV9 hb9 hS
    have hS := hT
    clear hT
    obtain ⟨fp0, fp1, fp2, fp3, fp4, _⟩ := hS.box
    obtain ⟨fx0, fy0, _, _⟩ := fp0.cells
    obtain ⟨fx1, fy1, _, _⟩ := fp1.cells
    obtain ⟨fx2, fy2, _, _⟩ := fp2.cells
    obtain ⟨fx3, fy3, _, _⟩ := fp3.cells
    obtain ⟨fx4, fy4, _, _⟩ := fp4.cells
    have hgu := frac_guards
    have heq := frac_same
    try go_upto_region 9 with fail
    have HS := Lib.hid hS
    clear hS
    go_cut [6] (fun s6 wx => s6 = .bool true ∧ StL w wx [(b9, au, av), (b7, au, av), (b5, pu, pv), (b3, pu, pv), (w.heap.size, fn, fd)])
    case first =>
      go_region_held3 (fun w' => w'.cell? ⟨b9, 0, none⟩ = some (.string au) ∧ w'.cell? ⟨b9, 1, none⟩ = some (.string av) ∧ w'.cell? ⟨b7, 0, none⟩ = some (.string au) ∧ w'.cell? ⟨b7, 1, none⟩ = some (.string av) ∧ w'.cell? ⟨b5, 0, none⟩ = some (.string pu) ∧ w'.cell? ⟨b5, 1, none⟩ = some (.string pv) ∧ w'.cell? ⟨b3, 0, none⟩ = some (.string pu) ∧ w'.cell? ⟨b3, 1, none⟩ = some (.string pv) ∧ w'.cell? ⟨w.heap.size, 0, none⟩ = some (.string fn) ∧ w'.cell? ⟨w.heap.size, 1, none⟩ = some (.string fd))
        (go_keep)
        (first
      | (go_at_call 35;
           (first
             | (with_reducible refine Calls.mono (Ret.call HT1.out _ (by first | exact HS.out.g | exact HS.out.drew.g | exact (HS.out.drewN _).g)) ?_));
           (rintro e WX ⟨rfl, hB1⟩);
           (have HS2 : StL w WX [(b9, au, av), (b7, au, av), (b5, pu, pv), (b3, pu, pv), (w.heap.size, fn, fd)] := (by first | exact HS.out.next hB1 | exact HS.out.next1 hB1 | exact HS.out.nextD hB1));
           (replace HS := Lib.hid HS2);
           (clear hB1 HS2);
           (obtain ⟨fp0, fp1, fp2, fp3, fp4, _⟩ := HS.out.box);
           (obtain ⟨fx0, fy0, _, _⟩ := fp0.cells);
           (obtain ⟨fx1, fy1, _, _⟩ := fp1.cells);
           (obtain ⟨fx2, fy2, _, _⟩ := fp2.cells);
           (obtain ⟨fx3, fy3, _, _⟩ := fp3.cells);
           (obtain ⟨fx4, fy4, _, _⟩ := fp4.cells))
      | (go_at_call 36;
           (first
             | (with_reducible refine Calls.mono (Ret.call HT2.out _ (by first | exact HS.out.g | exact HS.out.drew.g | exact (HS.out.drewN _).g)) ?_));
           (rintro e WX ⟨rfl, hB1⟩);
           (have HS2 : StL w WX [(b9, au, av), (b7, au, av), (b5, pu, pv), (b3, pu, pv), (w.heap.size, fn, fd)] := (by first | exact HS.out.next hB1 | exact HS.out.next1 hB1 | exact HS.out.nextD hB1));
           (replace HS := Lib.hid HS2);
           (clear hB1 HS2);
           (obtain ⟨fp0, fp1, fp2, fp3, fp4, _⟩ := HS.out.box);
           (obtain ⟨fx0, fy0, _, _⟩ := fp0.cells);
           (obtain ⟨fx1, fy1, _, _⟩ := fp1.cells);
           (obtain ⟨fx2, fy2, _, _⟩ := fp2.cells);
           (obtain ⟨fx3, fy3, _, _⟩ := fp3.cells);
           (obtain ⟨fx4, fy4, _, _⟩ := fp4.cells))
      | (go_at_call 7;
           (first
             | (with_reducible refine Calls.mono (Ret.call HAW.out _ (by first | exact HS.out.g | exact HS.out.drew.g | exact (HS.out.drewN _).g)) ?_));
           (rintro e WX ⟨rfl, hB1⟩);
           (have HS2 : StL w WX [(b9, au, av), (b7, au, av), (b5, pu, pv), (b3, pu, pv), (w.heap.size, fn, fd)] := (by first | exact HS.out.next hB1 | exact HS.out.next1 hB1 | exact HS.out.nextD hB1));
           (replace HS := Lib.hid HS2);
           (clear hB1 HS2);
           (obtain ⟨fp0, fp1, fp2, fp3, fp4, _⟩ := HS.out.box);
           (obtain ⟨fx0, fy0, _, _⟩ := fp0.cells);
           (obtain ⟨fx1, fy1, _, _⟩ := fp1.cells);
           (obtain ⟨fx2, fy2, _, _⟩ := fp2.cells);
           (obtain ⟨fx3, fy3, _, _⟩ := fp3.cells);
           (obtain ⟨fx4, fy4, _, _⟩ := fp4.cells)))
      all_goals go_wp2_with fail
      all_goals go_meet
      all_goals exact ⟨rfl, (by first | exact HS.out | exact HS.out.drew | exact HS.out.drewN _)⟩
    clear HS
    clear fp0 fx0 fy0 fp1 fx1 fy1 fp2 fx2 fy2 fp3 fx3 fy3 fp4 fx4 fy4
    obtain ⟨rfl, hS⟩ := hcut
    obtain ⟨w10, hw⟩ : ∃ W, W = wc := ⟨_, rfl⟩
    rw [← hw] at hS
    rw [← hw]
    clear hw
    go_wp2_with fail
    go_ret
    exact ⟨rfl, hS.below⟩

set_option maxRecDepth 100000 in
set_option maxHeartbeats 16000000 in
theorem ftexts_long (fn fd : ByteArray) (n : Int) (s : ByteArray) (w : World) (hG : Ground w) (hl : flong 13 [(fn, fd)] = true) :
    Calls Tryz.prog 5 #[.agg #[.string fn, .string fd], .int .i64 n, .string s] w fun e w' => e = .returned (.bool true) ∧ Below w.heap.size w w' := by
  have HL := Lib.hid hl
  clear hl
  obtain ⟨W0, hW0⟩ : ∃ W0, W0 = w.alloc (.cells #[.string fn, .string fd] 24) := ⟨_, rfl⟩
  have hS : StL w W0 [(w.heap.size, fn, fd)] := by rw [hW0]; exact StL.one hG _ _
  go_enter Tryz.func5, Tryz.ntmps5
  go_upto_region 1 with fail
  rw [← hW0]
  clear hW0
  obtain ⟨fp0, _⟩ := hS.box
  obtain ⟨fx0, fy0, _, _⟩ := fp0.cells
  go_wp2_with fail
  obtain ⟨W1, hW1⟩ : ∃ W1, W1 = W0.alloc (.cells #[.string fn, .string fd] 24) := ⟨_, rfl⟩
  have hc0 : ∀ i, i < 1 → W1.cell? ⟨W0.heap.size, i * 2, none⟩ = some (.string ([(fn, fd)].getD i (⟨#[]⟩, ⟨#[]⟩)).1) ∧ W1.cell? ⟨W0.heap.size, i * 2 + 1, none⟩ = some (.string ([(fn, fd)].getD i (⟨#[]⟩, ⟨#[]⟩)).2) := by rw [hW1]; exact fgreat_cells W0 [(fn, fd)]
  have hS1 : StL w W1 [(w.heap.size, fn, fd)] := by rw [hW1]; exact hS.other _
  rw [← hW1]
  clear fp0 fx0 fy0
  clear hW1 hS
  have hS := hS1
  clear hS1
  refine (rLong_any W1 W0.heap.size 1 [(fn, fd)] rfl (by decide) hc0).mono ?_
  rintro _ _ ⟨rfl, rfl⟩
  clear hc0
  rw [HL.out]
  obtain ⟨fp0, _⟩ := hS.box
  obtain ⟨fx0, fy0, _, _⟩ := fp0.cells
  go_wp2_with fail
  clear fp0 fx0 fy0
  refine Calls.mono (fawake_any _ hS.g) ?_
  rintro _ w1 ⟨rfl, hB⟩
  replace hS := hS.next hB
  clear hB
  obtain ⟨fp0, _⟩ := hS.box
  obtain ⟨fx0, fy0, _, _⟩ := fp0.cells
  go_wp2_with fail
  go_ret
  exact ⟨rfl, hS.below⟩

set_option maxRecDepth 100000 in
set_option maxHeartbeats 16000000 in
theorem ftexts_mid (fn fd : ByteArray) (n : Int) (s : ByteArray) (w : World) (hG : Ground w) (hl : flong 13 [(fn, fd)] = false) (h1 : 130 < s.size) (h2 : s.size ≤ 65536) :
    Calls Tryz.prog 5 #[.agg #[.string fn, .string fd], .int .i64 n, .string s] w fun e w' => e = .returned (.bool true) ∧ Below w.heap.size w w' := by
  have HL := Lib.hid hl
  clear hl
  obtain ⟨W0, hW0⟩ : ∃ W0, W0 = w.alloc (.cells #[.string fn, .string fd] 24) := ⟨_, rfl⟩
  have hS : StL w W0 [(w.heap.size, fn, fd)] := by rw [hW0]; exact StL.one hG _ _
  go_enter Tryz.func5, Tryz.ntmps5
  go_upto_region 1 with fail
  rw [← hW0]
  clear hW0
  have z1 : (130 : Int) < s.size := by omega
  have z2 : (s.size : Int) ≤ 65536 := by omega
  obtain ⟨fp0, _⟩ := hS.box
  obtain ⟨fx0, fy0, _, _⟩ := fp0.cells
  go_wp2_with fail
  obtain ⟨W1, hW1⟩ : ∃ W1, W1 = W0.alloc (.cells #[.string fn, .string fd] 24) := ⟨_, rfl⟩
  have hc0 : ∀ i, i < 1 → W1.cell? ⟨W0.heap.size, i * 2, none⟩ = some (.string ([(fn, fd)].getD i (⟨#[]⟩, ⟨#[]⟩)).1) ∧ W1.cell? ⟨W0.heap.size, i * 2 + 1, none⟩ = some (.string ([(fn, fd)].getD i (⟨#[]⟩, ⟨#[]⟩)).2) := by rw [hW1]; exact fgreat_cells W0 [(fn, fd)]
  have hS1 : StL w W1 [(w.heap.size, fn, fd)] := by rw [hW1]; exact hS.other _
  rw [← hW1]
  clear fp0 fx0 fy0
  clear hW1 hS
  have hS := hS1
  clear hS1
  refine (rLong_any W1 W0.heap.size 1 [(fn, fd)] rfl (by decide) hc0).mono ?_
  rintro _ _ ⟨rfl, rfl⟩
  clear hc0
  rw [HL.out]
  obtain ⟨fp0, _⟩ := hS.box
  obtain ⟨fx0, fy0, _, _⟩ := fp0.cells
  go_wp2_with fail
  clear fp0 fx0 fy0
  refine Calls.mono (fawake_any _ hS.g) ?_
  rintro _ w1 ⟨rfl, hB⟩
  replace hS := hS.next hB
  clear hB
  obtain ⟨fp0, _⟩ := hS.box
  obtain ⟨fx0, fy0, _, _⟩ := fp0.cells
  go_wp2_with fail
  go_ret
  exact ⟨rfl, hS.below⟩

set_option maxRecDepth 100000 in
set_option maxHeartbeats 16000000 in
theorem ftexts_over (fn fd : ByteArray) (n : Int) (s : ByteArray) (w : World) (hG : Ground w) (hl : flong 13 [(fn, fd)] = false) (h1 : 65546 < s.size) :
    Calls Tryz.prog 5 #[.agg #[.string fn, .string fd], .int .i64 n, .string s] w fun e w' => e = .returned (.bool true) ∧ Below w.heap.size w w' := by
  have HL := Lib.hid hl
  clear hl
  obtain ⟨W0, hW0⟩ : ∃ W0, W0 = w.alloc (.cells #[.string fn, .string fd] 24) := ⟨_, rfl⟩
  have hS : StL w W0 [(w.heap.size, fn, fd)] := by rw [hW0]; exact StL.one hG _ _
  go_enter Tryz.func5, Tryz.ntmps5
  go_upto_region 1 with fail
  rw [← hW0]
  clear hW0
  have z1 : (130 : Int) < s.size := by omega
  have z2 : ¬ (s.size : Int) ≤ 65536 := by omega
  have z3 : (65546 : Int) < s.size := by omega
  obtain ⟨fp0, _⟩ := hS.box
  obtain ⟨fx0, fy0, _, _⟩ := fp0.cells
  go_wp2_with fail
  obtain ⟨W1, hW1⟩ : ∃ W1, W1 = W0.alloc (.cells #[.string fn, .string fd] 24) := ⟨_, rfl⟩
  have hc0 : ∀ i, i < 1 → W1.cell? ⟨W0.heap.size, i * 2, none⟩ = some (.string ([(fn, fd)].getD i (⟨#[]⟩, ⟨#[]⟩)).1) ∧ W1.cell? ⟨W0.heap.size, i * 2 + 1, none⟩ = some (.string ([(fn, fd)].getD i (⟨#[]⟩, ⟨#[]⟩)).2) := by rw [hW1]; exact fgreat_cells W0 [(fn, fd)]
  have hS1 : StL w W1 [(w.heap.size, fn, fd)] := by rw [hW1]; exact hS.other _
  rw [← hW1]
  clear fp0 fx0 fy0
  clear hW1 hS
  have hS := hS1
  clear hS1
  refine (rLong_any W1 W0.heap.size 1 [(fn, fd)] rfl (by decide) hc0).mono ?_
  rintro _ _ ⟨rfl, rfl⟩
  clear hc0
  rw [HL.out]
  obtain ⟨fp0, _⟩ := hS.box
  obtain ⟨fx0, fy0, _, _⟩ := fp0.cells
  go_wp2_with fail
  clear fp0 fx0 fy0
  refine Calls.mono (fawake_any _ hS.g) ?_
  rintro _ w1 ⟨rfl, hB⟩
  replace hS := hS.next hB
  clear hB
  obtain ⟨fp0, _⟩ := hS.box
  obtain ⟨fx0, fy0, _, _⟩ := fp0.cells
  go_wp2_with fail
  go_ret
  exact ⟨rfl, hS.below⟩

theorem ftexts_any (fn fd : ByteArray) (n : Int) (s : ByteArray) (w : World) (hG : Ground w) (_hb : -9223372036854775808 ≤ n) (_hc : n ≤ 9223372036854775807) :
    Calls Tryz.prog 5 #[.agg #[.string fn, .string fd], .int .i64 n, .string s] w fun e w' => e = .returned (.bool true) ∧ Below w.heap.size w w' := by
  by_cases hf : fn.size ≤ 13 ∧ fd.size ≤ 13
  · have hl : flong 13 [(fn, fd)] = false := flong_false (by simp; omega)
    by_cases h1 : s.size ≤ 130
    · exact ftexts_in fn fd n s w hG hf.1 hf.2 (.inl h1)
    · by_cases h2 : s.size ≤ 65536
      · exact ftexts_mid fn fd n s w hG hl (by omega) h2
      · by_cases h3 : s.size ≤ 65546
        · exact ftexts_in fn fd n s w hG hf.1 hf.2 (.inr ⟨by omega, h3⟩)
        · exact ftexts_over fn fd n s w hG hl (by omega)
  · exact ftexts_long fn fd n s w hG (flong_true (f := (fn, fd)) (by simp) (by show 13 < fn.size ∨ 13 < fd.size; omega))

end Go.Proofs.YtldohkfomdcpoaaGreatDoor
