/- The reference implementation of layer 1: trim, group, order: walks. Slices may be nil or empty. -/
import Derived.Test.YtldohkfomdcpoaaGreatDoorMul
namespace Go.Proofs.YtldohkfomdcpoaaGreatDoor
open Go.RowKit

/-- the numbers zs lie in block b from place o on: they can be read -/
structure Sr (w : World) (b o cap : Nat) (zs : List Int) : Prop where
  lt : b < w.heap.size
  le : zs.length ≤ cap
  max : cap ≤ 9223372036854775807
  lim : zs.length ≤ 1000000
  cell : ∀ i, i < zs.length → w.cell? ⟨b, o + i, none⟩ = some (.int .i64 (zs.getD i 0))

theorem Sr.below {B : Nat} {w w' : World} {b o cap : Nat} {zs : List Int} (h : Sr w b o cap zs) (hb : Below B w w') (hlt : b < B) : Sr w' b o cap zs :=
  ⟨Nat.lt_of_lt_of_le h.lt hb.size, h.le, h.max, h.lim, fun i hi => (hb.cell (p := ⟨b, o + i, none⟩) hlt).trans (h.cell i hi)⟩
theorem Sr.take {w : World} {b o cap : Nat} {zs : List Int} (h : Sr w b o cap zs) (ys : List Int) (hp : ys <+: zs) : Sr w b o cap ys :=
  ⟨h.lt, Nat.le_trans hp.length_le h.le, h.max, Nat.le_trans hp.length_le h.lim, fun i hi => by rw [h.cell i (Nat.lt_of_lt_of_le hi hp.length_le), prefix_getD hp hi]⟩
theorem Sl.sr {w : World} {b o cap : Nat} {zs : List Int} (h : Sl w b o cap zs) (hl : zs.length ≤ 1000000) : Sr w b o cap zs := ⟨h.lt, h.le, Nat.le_trans h.max (by decide), hl, h.cell⟩

/-- a slice with the address xa reads as the numbers zs; nothing is known of the address of an empty one -/
structure Rd (w : World) (xa : Option Addr) (cap : Nat) (zs : List Int) : Prop where
  lim : zs.length ≤ 1000000
  sl : 0 < zs.length → ∃ b o, xa = some ⟨b, o, none⟩ ∧ Sr w b o cap zs

theorem Rd.nil (w : World) (xa : Option Addr) (cap : Nat) : Rd w xa cap [] := ⟨by simp, fun h => by simp at h⟩
theorem Rd.below {w w' : World} {xa : Option Addr} {cap : Nat} {zs : List Int} (h : Rd w xa cap zs) (hb : Below w.heap.size w w') : Rd w' xa cap zs :=
  ⟨h.lim, fun h0 => by obtain ⟨b, o, e, hs⟩ := h.sl h0; exact ⟨b, o, e, hs.below hb hs.lt⟩⟩
theorem Rd.belowAt {B : Nat} {w w' : World} {xa : Option Addr} {cap : Nat} {zs : List Int} (h : Rd w xa cap zs) (hb : Below B w w') (hB : w.heap.size ≤ B) : Rd w' xa cap zs := h.below (hb.mono hB)
theorem Rd.drewN {w : World} {xa : Option Addr} {cap : Nat} {zs : List Int} (h : Rd w xa cap zs) (n : Nat) : Rd (w.drewN n) xa cap zs :=
  ⟨h.lim, fun h0 => by obtain ⟨b, o, e, hs⟩ := h.sl h0; exact ⟨b, o, e, ⟨hs.lt, hs.le, hs.max, hs.lim, hs.cell⟩⟩⟩
theorem Rd.setOther {w : World} {xa : Option Addr} {cap : Nat} {zs : List Int} (h : Rd w xa cap zs) {a : Addr} (hne : ∀ b o, xa = some ⟨b, o, none⟩ → b ≠ a.block) (v : Value) : Rd (w.setCell a v) xa cap zs :=
  ⟨h.lim, fun h0 => by
    obtain ⟨b, o, e, hs⟩ := h.sl h0
    exact ⟨b, o, e, by simpa [World.setCell] using hs.lt, hs.le, hs.max, hs.lim, fun i hi => (World.cell?_of_block (w := w) (a := ⟨b, o + i, none⟩) (Below.heap_setCell w a v b (hne b o e))).trans (hs.cell i hi)⟩⟩
theorem Rd.prefix {w : World} {xa : Option Addr} {cap : Nat} {zs : List Int} (h : Rd w xa cap zs) {ys : List Int} (hp : ys <+: zs) : Rd w xa cap ys :=
  ⟨Nat.le_trans hp.length_le h.lim, fun h0 => by obtain ⟨b, o, e, hs⟩ := h.sl (Nat.lt_of_lt_of_le h0 hp.length_le); exact ⟨b, o, e, hs.take ys hp⟩⟩

set_option maxHeartbeats 1000000 in
theorem rTrim_sl (w : World) (b o cap n : Nat) (zs : List Int) (hn : zs.length = n) (hz : Sr w b o cap zs) :
    Calls Tryz.prog 102 #[.slice (some ⟨b, o, none⟩) n cap] w
      fun e w' => e = .returned (.slice (some ⟨b, o, none⟩) (Num.trimmed zs).length cap) ∧ w = w' := by
  have hnc : n ≤ cap := by have := hz.le; omega
  have hmx := hz.max
  have HN := Lib.hid hn
  clear hn
  go_enter Tryz.func102, Tryz.ntmps102
  go_wp2
  go_loop [0] (fun v => ∃ k : Nat, k ≤ n ∧ v = .slice (some ⟨b, o, none⟩) k cap ∧ Num.trimmed (zs.take k) = Num.trimmed zs) (fun v => lenOf v)
  case atStart => exact ⟨n, Nat.le_refl _, rfl, by rw [List.take_of_length_le (by have := HN.out; omega)]⟩
  case round =>
    obtain ⟨k, hk, rfl, ht⟩ := hrel
    have HT := Lib.hid ht
    clear ht
    by_cases h0 : 0 < k
    · obtain ⟨j, rfl⟩ : ∃ j, k = j + 1 := ⟨k - 1, by omega⟩
      obtain ⟨x, hx⟩ : ∃ x, x = zs.getD j 0 := ⟨_, rfl⟩
      have hc : w.cell? ⟨b, o + j, none⟩ = some (.int .i64 x) := by rw [hx]; exact hz.cell j (by have := HN.out; omega)
      have HX := Lib.hid hx
      clear hx
      by_cases hx0 : x = 0
      · have hb : (x == 0) = true := by simpa using hx0
        have ht : Num.trimmed (zs.take j) = Num.trimmed zs := by
          rw [← HT.out, take_succ_getD (by have := HN.out; omega), ← HX.out, hx0, Num.trimmed_snoc_zero]
        have H := Lib.hid ht
        clear ht hx0
        go_wp2
        go_round
        case rel => exact ⟨j, by omega, rfl, H.out⟩
        case measure => simp [lenOf]
      · have hb : (x == 0) = false := by simpa using hx0
        have ht : (Num.trimmed zs).length = j + 1 := by
          rw [← HT.out, take_succ_getD (by have := HN.out; omega), ← HX.out, Num.trimmed_snoc _ hx0]
          simp; have := HN.out; omega
        have H := Lib.hid ht
        clear ht hx0
        go_wp2
        go_ret
        exact ⟨by rw [H.out]; rfl, rfl⟩
    · obtain rfl : k = 0 := by omega
      have ht : (Num.trimmed zs).length = 0 := by rw [← HT.out]; rfl
      have H := Lib.hid ht
      clear ht
      go_wp2
      go_ret
      exact ⟨by rw [H.out]; rfl, rfl⟩

set_option maxHeartbeats 1000000 in
theorem rTrim_nil (w : World) (xa : Option Addr) (cap : Nat) :
    Calls Tryz.prog 102 #[.slice xa 0 cap] w fun e w' => e = .returned (.slice xa 0 cap) ∧ w = w' := by
  go_enter Tryz.func102, Tryz.ntmps102
  go_wp2
  go_loop [0] (fun v => v = .slice xa 0 cap) (fun v => lenOf v)
  case atStart => rfl
  case round =>
    subst hrel
    go_wp2
    go_ret
    exact ⟨rfl, rfl⟩

theorem rTrim_any (w : World) (xa : Option Addr) (cap n : Nat) (zs : List Int) (hn : zs.length = n) (hz : Rd w xa cap zs) :
    Calls Tryz.prog 102 #[.slice xa n cap] w fun e w' => e = .returned (.slice xa (Num.trimmed zs).length cap) ∧ w = w' := by
  by_cases h0 : n = 0
  · subst h0
    obtain rfl : zs = [] := List.eq_nil_of_length_eq_zero hn
    exact rTrim_nil w xa cap
  · obtain ⟨b, o, rfl, hs⟩ := hz.sl (by omega)
    exact rTrim_sl w b o cap n zs hn hs

set_option maxHeartbeats 1000000 in
theorem rGroup_in (w : World) (b o cap n i : Nat) (zs : List Int) (hn : zs.length = n) (hz : Sr w b o cap zs) (hi : i < n) :
    Calls Tryz.prog 101 #[.slice (some ⟨b, o, none⟩) n cap, .int .i64 i] w fun e w' => e = .returned (.int .i64 (zs.getD i 0)) ∧ w = w' := by
  have hc := hz.cell i (by omega)
  obtain ⟨x, hx⟩ : ∃ x, x = zs.getD i 0 := ⟨_, rfl⟩
  rw [← hx] at hc ⊢
  have hnb : n ≤ 1000000 := by have := hz.lim; omega
  clear hx hn
  go_enter Tryz.func101, Tryz.ntmps101
  go_wp2
  go_ret
  exact ⟨rfl, rfl⟩

set_option maxHeartbeats 1000000 in
theorem rGroup_out (w : World) (xa : Option Addr) (cap n i : Nat) (hi : n ≤ i) :
    Calls Tryz.prog 101 #[.slice xa n cap, .int .i64 i] w fun e w' => e = .returned (.int .i64 0) ∧ w = w' := by
  have hb : ¬ i < n := by omega
  go_enter Tryz.func101, Tryz.ntmps101
  go_wp2
  go_ret
  exact ⟨rfl, rfl⟩

theorem rGroup_any (w : World) (xa : Option Addr) (cap n i : Nat) (zs : List Int) (hn : zs.length = n) (hz : Rd w xa cap zs) :
    Calls Tryz.prog 101 #[.slice xa n cap, .int .i64 i] w fun e w' => e = .returned (.int .i64 (zs.getD i 0)) ∧ w = w' := by
  by_cases hi : i < n
  · obtain ⟨b, o, rfl, hs⟩ := hz.sl (by omega)
    exact rGroup_in w b o cap n i zs hn hs hi
  · rw [show zs.getD i 0 = 0 by simp [List.getD, List.getElem?_eq_none (show zs.length ≤ i by omega)]]
    exact rGroup_out w xa cap n i (by omega)

set_option maxHeartbeats 1000000 in
theorem rOrder_ne (w : World) (xa ya : Option Addr) (cap capy n m : Nat) (hnm : n ≠ m) (z : Int) (hz : z = if n < m then -1 else 1) :
    Calls Tryz.prog 110 #[.slice xa n cap, .slice ya m capy] w fun e w' => e = .returned (.int .i64 z) ∧ w = w' := by
  have hb : ((n : Int) == (m : Int)) = false := by rw [beq_eq_false_iff_ne]; omega
  have hb2 : ((n : Int) != (m : Int)) = true := by rw [bne_iff_ne]; omega
  by_cases hlt : n < m
  · rw [if_pos hlt] at hz
    subst hz
    go_enter Tryz.func110, Tryz.ntmps110
    go_wp2
    go_ret
    exact ⟨rfl, rfl⟩
  · rw [if_neg hlt] at hz
    subst hz
    go_enter Tryz.func110, Tryz.ntmps110
    go_wp2
    go_ret
    exact ⟨rfl, rfl⟩

set_option maxHeartbeats 1000000 in
theorem rOrder_zero (w : World) (xa ya : Option Addr) (cap capy : Nat) :
    Calls Tryz.prog 110 #[.slice xa 0 cap, .slice ya 0 capy] w fun e w' => e = .returned (.int .i64 0) ∧ w = w' := by
  go_enter Tryz.func110, Tryz.ntmps110
  go_wp2
  go_loop [5] (fun i => i = .int .i64 (-1)) (fun i => (intOf i + 1).toNat)
  case atStart => rfl
  case round =>
    subst hrel
    go_wp2
    go_ret
    exact ⟨rfl, rfl⟩

set_option maxHeartbeats 1000000 in
theorem rOrder_eq (w : World) (b o cap ob oy capy n : Nat) (xs ys : List Int) (hn : xs.length = n) (hm : ys.length = n) (hx : Sr w b o cap xs) (hy : Sr w ob oy capy ys) (cx : Num.Can xs) (cy : Num.Can ys) :
    Calls Tryz.prog 110 #[.slice (some ⟨b, o, none⟩) n cap, .slice (some ⟨ob, oy, none⟩) n capy] w
      fun e w' => e = .returned (.int .i64 (cmp3 (Num.gval xs) (Num.gval ys))) ∧ ∃ k, w' = w.drewN k := by
  have hnb : n ≤ 1000000 := by have := hx.lim; omega
  have HN := Lib.hid hn
  have HM := Lib.hid hm
  clear hn hm
  have hb : ((n : Int) == n) = true := by simp
  go_enter Tryz.func110, Tryz.ntmps110
  go_wp2
  go_loopw [5] (fun i wr => ∃ z : Int, -1 ≤ z ∧ z < n ∧ i = .int .i64 z ∧ xs.drop (z + 1).toNat = ys.drop (z + 1).toNat ∧ ∃ q, wr = w.drewN q) (fun i _ => (intOf i + 1).toNat)
  case atStart => exact ⟨n - 1, by omega, by omega, rfl, by rw [List.drop_of_length_le (by have := HN.out; omega), List.drop_of_length_le (by have := HM.out; omega)], 0, rfl⟩
  case round =>
    obtain ⟨z, hz0, hz1, rfl, he, q, rfl⟩ := hrel
    have HE := Lib.hid he
    clear he
    by_cases hneg : z < 0
    · have hr : cmp3 (Num.gval xs) (Num.gval ys) = 0 := by
        have := HE.out
        rw [show (z + 1).toNat = 0 by omega] at this
        simp at this
        rw [this]; exact cmp3_eq rfl
      have H := Lib.hid hr
      clear hr
      go_wp2
      go_ret
      exact ⟨by rw [H.out]; rfl, q, rfl⟩
    · obtain ⟨j, rfl⟩ := Int.eq_ofNat_of_zero_le (show 0 ≤ z by omega)
      obtain ⟨x, hxx⟩ : ∃ x, x = xs.getD j 0 := ⟨_, rfl⟩
      obtain ⟨y, hyy⟩ : ∃ y, y = ys.getD j 0 := ⟨_, rfl⟩
      have hcx : w.cell? ⟨b, o + j, none⟩ = some (.int .i64 x) := by rw [hxx]; exact hx.cell j (by have := HN.out; omega)
      have hcy : w.cell? ⟨ob, oy + j, none⟩ = some (.int .i64 y) := by rw [hyy]; exact hy.cell j (by have := HM.out; omega)
      have HX := Lib.hid hxx
      have HY := Lib.hid hyy
      clear hxx hyy
      by_cases hxy : x = y
      · have hb2 : ¬ x < y := by omega
        have hb3 : ¬ y < x := by omega
        have hd : xs.drop j = ys.drop j := by
          have h1 := HN.out; have h2 := HM.out
          have h3 := HE.out
          rw [show ((j : Int) + 1).toNat = j + 1 by omega] at h3
          rw [List.drop_eq_getElem_cons (show j < xs.length by omega), List.drop_eq_getElem_cons (show j < ys.length by omega), h3]
          congr 1
          have e1 := HX.out; have e2 := HY.out
          simp [List.getD, show j < xs.length by omega] at e1
          simp [List.getD, show j < ys.length by omega] at e2
          rw [← e1, ← e2, hxy]
        have H := Lib.hid hd
        clear hd hxy
        go_wp2
        go_quiet (fail)
        go_wp2
        go_quiet (fail)
        go_wp2
        go_roundw
        case rel => exact ⟨_, by omega, by omega, rfl, by rw [show ((j : Int) - 1 + 1).toNat = j by omega]; exact H.out, _, rfl⟩
        case measure => simp [intOf]
      · have hr : cmp3 (Num.gval xs) (Num.gval ys) = if x < y then -1 else 1 := by
          have h1 := HN.out; have h2 := HM.out
          have h3 := HE.out
          rw [show ((j : Int) + 1).toNat = j + 1 by omega] at h3
          have e1 := HX.out; have e2 := HY.out
          simp [List.getD, show j < xs.length by omega] at e1
          simp [List.getD, show j < ys.length by omega] at e2
          by_cases hlt : x < y
          · rw [cmp3_lt (Num.gval_lt_at cx.1 cy.1 j (by omega) (by omega) h3 (by rw [← e1, ← e2]; exact hlt)), if_pos hlt]
          · rw [cmp3_gt (Num.gval_lt_at cy.1 cx.1 j (by omega) (by omega) h3.symm (by rw [← e1, ← e2]; omega)), if_neg hlt]
        by_cases hlt : x < y
        · rw [if_pos hlt] at hr
          have H := Lib.hid hr
          clear hr hxy
          go_wp2
          go_quiet (fail)
          go_wp2
          go_ret
          exact ⟨by rw [H.out]; rfl, _, by rw [World.drewN_drewN]⟩
        · rw [if_neg hlt] at hr
          have hgt : y < x := by omega
          have H := Lib.hid hr
          clear hr hxy
          go_wp2
          go_quiet (fail)
          go_wp2
          go_quiet (fail)
          go_wp2
          go_ret
          exact ⟨by rw [H.out]; rfl, _, by rw [World.drewN_drewN, World.drewN_drewN]⟩

theorem rOrder_any (w : World) (xa ya : Option Addr) (cap capy n m : Nat) (xs ys : List Int) (hn : xs.length = n) (hm : ys.length = m) (hx : Rd w xa cap xs) (hy : Rd w ya capy ys) (cx : Num.Can xs) (cy : Num.Can ys) :
    Calls Tryz.prog 110 #[.slice xa n cap, .slice ya m capy] w
      fun e w' => e = .returned (.int .i64 (cmp3 (Num.gval xs) (Num.gval ys))) ∧ ∃ k, w' = w.drewN k := by
  by_cases hnm : n = m
  · subst hnm
    by_cases h0 : n = 0
    · subst h0
      obtain rfl : xs = [] := List.eq_nil_of_length_eq_zero hn
      obtain rfl : ys = [] := List.eq_nil_of_length_eq_zero hm
      exact (rOrder_zero w xa ya cap capy).mono fun e w' h => ⟨h.1, 0, h.2 ▸ rfl⟩
    · obtain ⟨b, o, rfl, hs⟩ := hx.sl (by omega)
      obtain ⟨ob, oy, rfl, ht⟩ := hy.sl (by omega)
      exact rOrder_eq w b o cap ob oy capy n xs ys hn hm hs ht cx cy
  · refine (rOrder_ne w xa ya cap capy n m hnm _ rfl).mono fun e w' h => ⟨?_, 0, h.2 ▸ rfl⟩
    rw [h.1]
    by_cases hlt : n < m
    · rw [if_pos hlt, cmp3_lt (Num.gval_lt_of_length cx cy (by omega))]
    · rw [if_neg hlt, cmp3_gt (Num.gval_lt_of_length cy cx (by omega))]

end Go.Proofs.YtldohkfomdcpoaaGreatDoor
