/- The reference implementation of layer 1: times: the walk. -/
import Derived.Test.YtldohkfomdcpoaaGreatDoorRefH
namespace Go.Proofs.YtldohkfomdcpoaaGreatDoor
open Go.RowKit
open Num (Part put Filled)

/-- k places of one row of the product are done -/
def TRel (w wq : World) (b : Nat) (Z ys : List Int) (x : Int) (i m k : Nat) (c : Int) : Prop :=
  Below w.heap.size w wq ∧ 0 ≤ c ∧ c ≤ 999999999 ∧ ((k ≤ m ∧ ∃ zs, Part (Num.part Z i (m + 1)) ys x k zs c ∧ Row wq b (put Z i zs)) ∨ (k = m + 1 ∧ c = 0 ∧ ∃ ws, Filled (Num.part Z i (m + 1)) ys x ws ∧ Row wq b (put Z i ws)))

/-- one row of the product is done -/
def TDone (w wq : World) (b : Nat) (Z ys : List Int) (x : Int) (i m : Nat) : Prop :=
  Below w.heap.size w wq ∧ ∃ ws, Filled (Num.part Z i (m + 1)) ys x ws ∧ Row wq b (put Z i ws)

theorem TRel.start {w wq : World} {b : Nat} {Z ys : List Int} {x : Int} {i m : Nat} (hB : Below w.heap.size w wq) (hr : Row wq b Z) : TRel w wq b Z ys x i m 0 0 :=
  ⟨hB, by omega, by omega, .inl ⟨by omega, [], Part.start _ _ _, by rw [Num.put_nil]; exact hr⟩⟩

theorem TRel.step {w wq : World} {b : Nat} {Z ys : List Int} {x : Int} {i m k : Nat} {c s t N X C : Int} (h : TRel w wq b Z ys x i m k c) (hb : w.heap.size ≤ b) (hk : k < m) (hZ : i + (m + 1) ≤ Z.length) (hs : s = Z.getD (i + k) 0) (ht : t = ys.getD k 0)
    (s0 : 0 ≤ s) (s1 : s < 1000000000) (hm : 0 ≤ x * t ∧ x * t ≤ 999999998000000001) (hN : s + x * t + c = N) (hX : N % 1000000000 = X) (hC : N / 1000000000 = C) : TRel w (wq.setCell ⟨b, i + k, none⟩ (.int .i64 X)) b Z ys x i m (k + 1) C := by
  obtain ⟨hB, c0, c1, hh⟩ := h
  rcases hh with ⟨_, zs, hp, hr⟩ | ⟨h1, _⟩
  · have hst := hp.step (s := s) (t := t) (n := N) (by rw [hs, Num.part_getD (by omega)]) ht s0 (by unfold Num.B; omega) (by omega) (by omega)
    unfold Num.B at hst
    rw [hX, hC] at hst
    refine ⟨hB.setCell (p := ⟨b, i + k, none⟩) hb _, by omega, by omega, .inl ⟨by omega, _, hst, ?_⟩⟩
    have hl := hp.len
    rw [← Num.put_snoc _ (by omega), hl]
    exact hr.set _ _
  · omega
theorem TRel.last {w wq : World} {b : Nat} {Z ys : List Int} {x : Int} {i m : Nat} {c : Int} (h : TRel w wq b Z ys x i m m c) (hb : w.heap.size ≤ b) (hZ : i + (m + 1) ≤ Z.length) (hs : Z.getD (i + m) 0 = 0) (hy : ys.length ≤ m) : TRel w (wq.setCell ⟨b, i + m, none⟩ (.int .i64 c)) b Z ys x i m (m + 1) 0 := by
  obtain ⟨hB, c0, c1, hh⟩ := h
  rcases hh with ⟨_, zs, hp, hr⟩ | ⟨h1, _⟩
  · have hf := hp.filled (by rw [Num.part_length hZ]) hy
    rw [Num.part_getD (by omega), hs, Int.zero_add] at hf
    refine ⟨hB.setCell (p := ⟨b, i + m, none⟩) hb _, by omega, by omega, .inr ⟨rfl, rfl, _, hf, ?_⟩⟩
    have hl := hp.len
    rw [← Num.put_snoc _ (by omega), hl]
    exact hr.set _ _
  · omega
theorem TRel.done {w wq : World} {b : Nat} {Z ys : List Int} {x : Int} {i m k : Nat} (h : TRel w wq b Z ys x i m k 0) (hk : m ≤ k) (hZ : i + (m + 1) ≤ Z.length) (hs : Z.getD (i + m) 0 = 0) (hy : ys.length ≤ m) : TDone w wq b Z ys x i m := by
  obtain ⟨hB, c0, c1, hh⟩ := h
  rcases hh with ⟨h1, zs, hp, hr⟩ | ⟨_, _, ws, hf, hr⟩
  · obtain rfl : k = m := by omega
    have hf := hp.filled (by rw [Num.part_length hZ]) hy
    rw [Num.part_getD (by omega), hs, Int.zero_add] at hf
    refine ⟨hB, _, hf, ?_⟩
    have hl := hp.len
    rw [← Num.put_snoc _ (by omega), hl]
    have h2 := hr.set (i + k) 0
    have h3 : (put Z i zs).set (i + k) 0 = put Z i zs := by
      apply List.ext_getElem?
      intro j
      by_cases hj : j = i + k
      · subst hj
        have hlt : i + k < (put Z i zs).length := by rw [Num.put_length (by omega)]; omega
        have h4 := Num.put_getD_behind (Z := Z) (zs := zs) (o := i) (j := i + k) (by omega) (by omega)
        rw [hs] at h4
        simp [List.getD, hlt] at h4
        simp [hlt, h4]
      · rw [List.getElem?_set_ne (by omega)]
    rw [h3]; exact hr
  · exact ⟨hB, ws, hf, hr⟩
theorem TRel.row {w wq : World} {b : Nat} {Z ys : List Int} {x : Int} {i m k : Nat} {c : Int} (h : TRel w wq b Z ys x i m k c) (hk : k ≤ m) (hZ : i + (m + 1) ≤ Z.length) : wq.cell? ⟨b, i + k, none⟩ = some (.int .i64 (Z.getD (i + k) 0)) ∧ wq.frozen? ⟨b, i + k, none⟩ = false := by
  obtain ⟨hB, c0, c1, hh⟩ := h
  rcases hh with ⟨_, zs, hp, hr⟩ | ⟨h1, _⟩
  · have hl := hp.len
    refine ⟨?_, hr.frozen _⟩
    rw [hr.cell (by rw [Num.put_length (by omega)]; omega), Num.put_getD_behind (by omega) (by omega)]
  · omega

theorem TRel.drewN {w wq : World} {b : Nat} {Z ys : List Int} {x : Int} {i m k : Nat} {c : Int} (h : TRel w wq b Z ys x i m k c) (q : Nat) : TRel w (wq.drewN q) b Z ys x i m k c :=
  ⟨below_drewN h.1 q, h.2.1, h.2.2.1, h.2.2.2⟩
theorem TRel.zero {w wq : World} {b : Nat} {Z ys : List Int} {x : Int} {i m k : Nat} {c : Int} (h : TRel w wq b Z ys x i m k c) (hc : 0 < c) : k ≤ m := by
  obtain ⟨_, _, _, hh⟩ := h
  rcases hh with ⟨h1, _⟩ | ⟨_, h1, _⟩ <;> omega

set_option maxRecDepth 100000 in
set_option maxHeartbeats 2000000 in
theorem rTimes_any (w : World) (xa ya : Option Addr) (cap capy n m : Nat) (xs ys : List Int) (hn : xs.length = n) (hm : ys.length = m) (hx : Rd w xa cap xs) (hy : Rd w ya capy ys) (cx : Num.Norm xs) (cy : Num.Norm ys) (hlim : n ≤ 400000 ∧ m ≤ 400000) (zs : List Int) (hz : Num.Can zs) (hg : Num.gval zs = Num.gval xs * Num.gval ys) :
    Calls Tryz.prog 79 #[.slice xa n cap, .slice ya m capy] w (NewRd w zs) := by
  have hmk := run_makeInts (n + m) (by omega)
  rw [show ((n + m : Nat) : Int) = (n : Int) + m by omega] at hmk
  have HN := Lib.hid hn
  have HM := Lib.hid hm
  have HGZ := Lib.hid hg
  clear hn hm hg
  go_enter Tryz.func79, Tryz.ntmps79
  go_wp2_with fail
  clear hmk
  go_loopw [6] (fun i wr => ∃ k : Nat, k ≤ n ∧ i = .int .i64 k ∧ ∃ Z, Num.MulInv xs ys (n + m) k Z ∧ Row wr w.heap.size Z ∧ Below w.heap.size w wr) (fun i _ => n - (intOf i).toNat)
  case atStart => exact ⟨0, Nat.zero_le _, rfl, _, Num.MulInv.start _ _ _, Row.made w _, (Below.refl _ _).alloc (Nat.le_refl _) _⟩
  case round =>
    obtain ⟨i, hi, rfl, Z, hinv, hrow, hB⟩ := hrel
    have HI := Lib.hid hinv
    have HR := Lib.hid hrow
    have HB := Lib.hid hB
    clear hinv hrow hB
    by_cases hlt : i < n
    · have hZl : Z.length = n + m := HI.out.len
      have hz0 : Z.getD (i + m) 0 = 0 := HI.out.zero _ (by have := HM.out; omega)
      have HZL := Lib.hid hZl
      have HZ0 := Lib.hid hz0
      obtain ⟨x, hxx⟩ : ∃ x, x = xs.getD i 0 := ⟨_, rfl⟩
      have hxb := cx.getD i
      rw [← hxx] at hxb
      unfold Num.B at hxb
      obtain ⟨b, o, rfl, hsr⟩ := hx.sl (by have := HN.out; omega)
      have HX := Lib.hid hxx
      have hcapb : n ≤ cap := by have := hsr.le; have := HN.out; omega
      have hcapm := hsr.max
      have HT0 := Lib.hid (TRel.start (ys := ys) (x := x) (i := i) (m := m) HB.out HR.out)
      clear hZl hz0 hxx
      go_wp2_with fail
      go_loopw [7, 8] (fun cv kv wq => ∃ (k : Nat) (c : Int), k ≤ m + 1 ∧ kv = .int .i64 k ∧ cv = .int .i64 c ∧ TRel w wq w.heap.size Z ys x i m k c) (fun _ kv _ => m + 1 - (intOf kv).toNat)
      case atStart => exact ⟨0, 0, by omega, rfl, rfl, HT0.out⟩
      case round =>
        clear HT0 HR HB
        obtain ⟨k, c, hk, rfl, rfl, ht⟩ := hrel
        have hc0 := ht.2.1
        have hc1 := ht.2.2.1
        have HT := Lib.hid ht
        clear ht
        have hcellx : wr.cell? ⟨b, o + i, none⟩ = some (.int .i64 x) := by
          rw [HX.out]; exact (hsr.below HT.out.1 hsr.lt).cell i (by have := HN.out; omega)
        by_cases hgo : k < m ∨ 0 < c
        · have hkm : k ≤ m := by
            rcases hgo with h | h
            · omega
            · exact HT.out.zero h
          have hways : k < m ∨ (¬ k < m ∧ 0 < c) := by omega
          obtain ⟨s, hs⟩ : ∃ s, s = Z.getD (i + k) 0 := ⟨_, rfl⟩
          obtain ⟨t, htt⟩ : ∃ t, t = ys.getD k 0 := ⟨_, rfl⟩
          have hsb := HI.out.norm.getD (i + k)
          have htb := cy.getD k
          rw [← hs] at hsb
          rw [← htt] at htb
          unfold Num.B at hsb htb
          have hrow := HT.out.row hkm (by have := HZL.out; omega)
          rw [← hs] at hrow
          have hcz := hrow.1
          have hfz := hrow.2
          have hmul := Num.mul_bounds (f := x) (t := t) (by omega) (by omega) htb.1 htb.2
          have hmul0 : 0 ≤ x * t := Int.mul_nonneg hxb.1 htb.1
          obtain ⟨P, hP⟩ : ∃ P, x * t = P := ⟨_, rfl⟩
          rw [hP] at hmul hmul0
          obtain ⟨N, hN⟩ : ∃ N, s + P + c = N := ⟨_, rfl⟩
          obtain ⟨X, hX⟩ : ∃ X, N % 1000000000 = X := ⟨_, rfl⟩
          obtain ⟨C, hC⟩ : ∃ C, N / 1000000000 = C := ⟨_, rfl⟩
          have hnext : ∀ q, TRel w ((wr.drewN q).setCell ⟨w.heap.size, i + k, none⟩ (.int .i64 X)) w.heap.size Z ys x i m (k + 1) C := fun q => by
            by_cases hk2 : k < m
            · exact (HT.out.drewN q).step (Nat.le_refl _) hk2 (by have := HZL.out; omega) hs htt hsb.1 hsb.2 (by rw [hP]; omega) (by rw [hP]; exact hN) hX hC
            · obtain rfl : k = m := by omega
              have h1 : s = 0 := by rw [hs]; exact HZ0.out
              have h2 : t = 0 := by rw [htt]; have := HM.out; simp [List.getD, List.getElem?_eq_none (show ys.length ≤ k by omega)]
              have h3 : P = 0 := by rw [← hP, h2]; simp
              have h4 : N = c := by omega
              obtain rfl : X = c := by omega
              obtain rfl : C = 0 := by omega
              exact (HT.out.drewN q).last (Nat.le_refl _) (by have := HZL.out; omega) HZ0.out (by have := HM.out; omega)
          have H := Lib.hid hnext
          have hNb : 0 ≤ N ∧ N ≤ 999999999999999999 := by omega
          have hgr : ∀ q, Calls Tryz.prog 101 #[.slice ya m capy, .int .i64 k] (wr.drewN q) fun e w' => e = .returned (.int .i64 t) ∧ w' = wr.drewN q := fun q => by
            rw [htt]; exact (rGroup_any _ ya capy m k ys HM.out ((hy.below HT.out.1).drewN q)).mono fun _ _ h => ⟨h.1, h.2.symm⟩
          have HGR := Lib.hid hgr
          have hw0 : IntKind.i64.wrap ((i : Int) + (k : Int)) = (i : Int) + (k : Int) := IntWalk.i64_in _ (by omega)
          have hw4 : ((i : Int) + (k : Int)).toNat = i + k := by omega
          have hw1 : IntKind.i64.wrap (x * t) = P := by rw [hP]; exact IntWalk.i64_in _ (by omega)
          have hw2 : IntKind.i64.wrap (s + P) = s + P := IntWalk.i64_in _ (by omega)
          have hw3 : IntKind.i64.wrap N = N := IntWalk.i64_in _ (by omega)
          have hNat : (i : Int) + (k : Int) < (n : Int) + (m : Int) := by omega
          clear hs htt hgr hrow hnext hgo
          rcases hways with hd1 | ⟨hd1, hd2⟩
          all_goals
            go_wp2_with fail
            go_quiet ((go_at_call 101; exact Calls.quiet_of_same (HGR.out _)))
            go_wp2_with fail
            go_roundw
            case rel => exact ⟨k + 1, C, by omega, by go_num, by rw [hC], H.out _⟩
            case measure => simp [intOf]; omega
        · obtain rfl : c = 0 := by omega
          have h1 : ¬ k < m := by omega
          have hd := HT.out.done (by omega) (by have := HZL.out; omega) HZ0.out (by have := HM.out; omega)
          obtain ⟨hBd, ws, hfil, hrow2⟩ := hd
          have hinv2 := HI.out.step cy cx (by have := HM.out; omega) (by rw [HM.out, ← HX.out]; exact hfil)
          have HI2 := Lib.hid hinv2
          have HR2 := Lib.hid hrow2
          have HB2 := Lib.hid hBd
          clear hinv2 hrow2 hBd hfil hgo
          go_wp2_with fail
          go_roundw
          case rel => exact ⟨i + 1, by omega, by go_num, _, HI2.out, HR2.out, HB2.out⟩
          case measure => simp [intOf]; omega
    · obtain rfl : i = n := by omega
      have hl := HI.out.len
      have htr : Num.trimmed Z = zs := by
        refine Num.gval_inj (Num.Can.trimmed HI.out.norm) hz ?_
        rw [Num.gval_trimmed, HI.out.eq, List.take_of_length_le (by have := HN.out; omega), HGZ.out]
      have hrd : Rd wr (some ⟨w.heap.size, 0, none⟩) (i + m) Z := ⟨by omega, fun _ => ⟨_, 0, rfl, (HR.out.sl (cap := i + m) (by omega) (by omega)).sr (by omega)⟩⟩
      have hpre := hrd.prefix (Num.trimmed_prefix Z)
      rw [htr] at hpre
      have HTR := Lib.hid htr
      have HL := Lib.hid hl
      clear htr hl
      go_wp2_with fail
      refine (rTrim_any wr _ _ (i + m) Z HL.out hrd).mono ?_
      rintro e _ ⟨rfl, rfl⟩
      go_wp2_with fail
      go_ret
      exact ⟨_, _, by rw [HTR.out]; rfl, hpre, HB.out, fun b o e => by injection e with e; injection e with e; omega, fun e => by cases e⟩

end Go.Proofs.YtldohkfomdcpoaaGreatDoor
