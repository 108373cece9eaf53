/- integer.trim, compareGroups: walks. -/
import Derived.Test.YtldohkfomdcpoaaGreatDoorAddTimes
import Derived.Deep.QuietTactic
import Derived.BigQuiet
namespace Go.Proofs.YtldohkfomdcpoaaGreatDoor
open Go.RowKit

/-- a callee that only computes, called behind draws -/
theorem still_call {P : Program} {f : FuncId} {args : Array Value} {w : World} {a n : Nat} {v : Value} (h : Calls P f args (w.drewN (a + n)) fun e w' => e = .returned v ∧ w' = w.drewN (a + n)) :
    Calls P f args (w.drewN (a + n)) fun e w' => e = .returned v ∧ ∃ m, w' = w.drewN (a + m) :=
  h.mono fun _ _ hh => ⟨hh.1, n, hh.2⟩

theorem take_succ_getD {zs : List Int} {j : Nat} (h : j < zs.length) : zs.take (j + 1) = zs.take j ++ [zs.getD j 0] := by
  rw [List.take_succ_eq_append_getElem h]; simp [List.getD, h]

/-- the measure of trim's loop -/
def lenOf : Value → Nat | .slice _ k _ => k | _ => 0

set_option maxHeartbeats 1000000 in
theorem trim_any (w : World) (b o cap n : Nat) (zs : List Int) (hn : zs.length = n) (hz : Sl w b o cap zs) :
    Calls Tryz.prog 105 #[.slice (some ⟨b, o, none⟩) n cap] w
      fun e w' => e = .returned (.slice (some ⟨b, o, none⟩) (Num.trimmed zs).length cap) ∧ w = w' := by
  have hnc : n ≤ cap := by have := hz.le; omega
  have hmx := hz.max
  have HN := Lib.hid hn
  clear hn
  go_enter Tryz.func105, Tryz.ntmps105
  go_wp2
  go_loop [0] (fun v => ∃ k : Nat, k ≤ n ∧ v = .slice (some ⟨b, o, none⟩) k cap ∧ Num.trimmed (zs.take k) = Num.trimmed zs) (fun v => lenOf v)
  case atStart => exact ⟨n, Nat.le_refl _, rfl, by rw [List.take_of_length_le (by have := HN.out; omega)]⟩
  case round =>
    obtain ⟨k, hk, rfl, ht⟩ := hrel
    have HT := Lib.hid ht
    clear ht
    by_cases h0 : 0 < k
    · obtain ⟨j, rfl⟩ : ∃ j, k = j + 1 := ⟨k - 1, by omega⟩
      obtain ⟨x, hx⟩ : ∃ x, x = zs.getD j 0 := ⟨_, rfl⟩
      have hc : w.cell? ⟨b, o + j, none⟩ = some (.int .i64 x) := by rw [hx]; exact hz.cell j (by have := HN.out; omega)
      have HX := Lib.hid hx
      clear hx
      by_cases hx0 : x = 0
      · have hb : (x == 0) = true := by simpa using hx0
        have ht : Num.trimmed (zs.take j) = Num.trimmed zs := by
          rw [← HT.out, take_succ_getD (by have := HN.out; omega), ← HX.out, hx0, Num.trimmed_snoc_zero]
        have H := Lib.hid ht
        clear ht hx0
        go_wp2
        go_round
        case rel => exact ⟨j, by omega, rfl, H.out⟩
        case measure => simp [lenOf]
      · have hb : (x == 0) = false := by simpa using hx0
        have ht : (Num.trimmed zs).length = j + 1 := by
          rw [← HT.out, take_succ_getD (by have := HN.out; omega), ← HX.out, Num.trimmed_snoc _ hx0]
          simp; have := HN.out; omega
        have H := Lib.hid ht
        clear ht hx0
        go_wp2
        go_ret
        exact ⟨by rw [H.out]; rfl, rfl⟩
    · obtain rfl : k = 0 := by omega
      have ht : (Num.trimmed zs).length = 0 := by rw [← HT.out]; rfl
      have H := Lib.hid ht
      clear ht
      go_wp2
      go_ret
      exact ⟨by rw [H.out]; rfl, rfl⟩

set_option maxHeartbeats 1000000 in
theorem compareGroups_any (w : World) (b o cap ob oy capy n m : Nat) (xs ys : List Int) (hn : xs.length = n) (hm : ys.length = m) (hx : Sl w b o cap xs) (hy : Sl w ob oy capy ys) (cx : Num.Can xs) (cy : Num.Can ys) :
    Calls Tryz.prog 103 #[.slice (some ⟨b, o, none⟩) n cap, .slice (some ⟨ob, oy, none⟩) m capy] w
      fun e w' => e = .returned (.int .i64 (cmp3 (Num.gval xs) (Num.gval ys))) ∧ ∃ k, w' = w.drewN k := by
  have hnb : n ≤ 1099511627776 := by have := hx.le; have := hx.max; omega
  have hmb : m ≤ 1099511627776 := by have := hy.le; have := hy.max; omega
  have HN := Lib.hid hn
  have HM := Lib.hid hm
  clear hn hm
  by_cases hnm : n = m
  · subst hnm
    have hb : ((n : Int) == n) = true := by simp
    go_enter Tryz.func103, Tryz.ntmps103
    go_wp2
    go_loopw [5] (fun i wr => ∃ z : Int, -1 ≤ z ∧ z < n ∧ i = .int .i64 z ∧ xs.drop (z + 1).toNat = ys.drop (z + 1).toNat ∧ ∃ q, wr = w.drewN q) (fun i _ => (intOf i + 1).toNat)
    case atStart => exact ⟨n - 1, by omega, by omega, rfl, by rw [List.drop_of_length_le (by have := HN.out; omega), List.drop_of_length_le (by have := HM.out; omega)], 0, rfl⟩
    case round =>
      obtain ⟨z, hz0, hz1, rfl, he, q, rfl⟩ := hrel
      have HE := Lib.hid he
      clear he
      by_cases hneg : z < 0
      · have hr : cmp3 (Num.gval xs) (Num.gval ys) = 0 := by
          have := HE.out
          rw [show (z + 1).toNat = 0 by omega] at this
          simp at this
          rw [this]; exact cmp3_eq rfl
        have H := Lib.hid hr
        clear hr
        go_wp2
        go_ret
        exact ⟨by rw [H.out]; rfl, q, rfl⟩
      · obtain ⟨j, rfl⟩ := Int.eq_ofNat_of_zero_le (show 0 ≤ z by omega)
        obtain ⟨x, hxx⟩ : ∃ x, x = xs.getD j 0 := ⟨_, rfl⟩
        obtain ⟨y, hyy⟩ : ∃ y, y = ys.getD j 0 := ⟨_, rfl⟩
        have hcx : w.cell? ⟨b, o + j, none⟩ = some (.int .i64 x) := by rw [hxx]; exact hx.cell j (by have := HN.out; omega)
        have hcy : w.cell? ⟨ob, oy + j, none⟩ = some (.int .i64 y) := by rw [hyy]; exact hy.cell j (by have := HM.out; omega)
        have HX := Lib.hid hxx
        have HY := Lib.hid hyy
        clear hxx hyy
        by_cases hxy : x = y
        · have hb2 : (x == y) = true := by simpa using hxy
          have hd : xs.drop j = ys.drop j := by
            have h1 := HN.out; have h2 := HM.out
            have h3 := HE.out
            rw [show ((j : Int) + 1).toNat = j + 1 by omega] at h3
            rw [List.drop_eq_getElem_cons (show j < xs.length by omega), List.drop_eq_getElem_cons (show j < ys.length by omega), h3]
            congr 1
            have e1 := HX.out; have e2 := HY.out
            simp [List.getD, show j < xs.length by omega] at e1
            simp [List.getD, show j < ys.length by omega] at e2
            rw [← e1, ← e2, hxy]
          have H := Lib.hid hd
          clear hd hxy
          go_wp2
          go_quiet (fail)
          go_wp2
          go_roundw
          case rel => exact ⟨_, by omega, by omega, rfl, by rw [show ((j : Int) - 1 + 1).toNat = j by omega]; exact H.out, _, rfl⟩
          case measure => simp [intOf]
        · have hb2 : (x == y) = false := by simpa using hxy
          have hr : cmp3 (Num.gval xs) (Num.gval ys) = Lib.compareInt x y := by
            have h1 := HN.out; have h2 := HM.out
            have h3 := HE.out
            rw [show ((j : Int) + 1).toNat = j + 1 by omega] at h3
            have e1 := HX.out; have e2 := HY.out
            simp [List.getD, show j < xs.length by omega] at e1
            simp [List.getD, show j < ys.length by omega] at e2
            unfold Lib.compareInt
            by_cases hlt : x < y
            · rw [cmp3_lt (Num.gval_lt_at cx.1 cy.1 j (by omega) (by omega) h3 (by rw [← e1, ← e2]; exact hlt)), if_pos hlt]
            · rw [cmp3_gt (Num.gval_lt_at cy.1 cx.1 j (by omega) (by omega) h3.symm (by rw [← e1, ← e2]; omega)), if_neg hlt, if_pos (by omega)]
          have H := Lib.hid hr
          clear hr hxy
          go_wp2
          go_quiet (fail)
          go_wp2
          go_quiet ((go_at_call 99; exact still_call (Tryz.cmp_Compare_int _ _ _)))
          go_wp2
          go_ret
          exact ⟨by rw [H.out]; rfl, _, by rw [World.drewN_drewN, World.drewN_drewN]⟩
  · have hb : ((n : Int) == m) = false := by rw [beq_eq_false_iff_ne]; omega
    have hr : cmp3 (Num.gval xs) (Num.gval ys) = Lib.compareInt n m := by
      have h1 := HN.out
      have h2 := HM.out
      unfold Lib.compareInt
      by_cases hlt : n < m
      · rw [cmp3_lt (Num.gval_lt_of_length cx cy (by omega)), if_pos (by omega)]
      · rw [cmp3_gt (Num.gval_lt_of_length cy cx (by omega)), if_neg (by omega), if_pos (by omega)]
    have H := Lib.hid hr
    clear hr hnm
    go_enter Tryz.func103, Tryz.ntmps103
    go_wp2_with (first | (go_at_call 99; refine (Tryz.cmp_Compare_int _ _ _).mono ?_; rintro e w' ⟨rfl, rfl⟩))
    go_ret
    exact ⟨by rw [H.out]; rfl, 0, rfl⟩
end Go.Proofs.YtldohkfomdcpoaaGreatDoor
