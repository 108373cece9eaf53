/- The reference implementation of layer 1: Of: the walk. -/
import Derived.Test.YtahnkmkmoalbhaaGreatDoorZAB
import Derived.Test.YtahnkmkmoalbhaaGreatDoorZAC
import Derived.Deep.CutBlock
import Derived.Deep.DeepCutAuto
import Derived.Deep.RegionHeld3
import Derived.IntWalk
import Derived.Laws.Runes
import Derived.OwnWalk
namespace Go.Proofs.YtahnkmkmoalbhaaGreatDoor
open Go.RowKit

theorem digs_step {M : Nat} (h : M ≠ 0) : Num.digs M = Num.digs (M / 10) ++ [UInt8.ofNat (48 + M % 10)] := by
  unfold Num.digs
  rw [if_neg h]
  by_cases h1 : M < 10
  · rw [Lib.decDigits, dif_pos h1, if_pos (by omega), Nat.mod_eq_of_lt h1]; rfl
  · rw [Lib.decDigits, dif_neg h1, if_neg (by omega)]

theorem enc_low (r : Nat) (h : r < 128) : Utf8.encode (r : Int) = ⟨#[UInt8.ofNat r]⟩ := by
  have v : Utf8.valid (r : Int) = true := by simp [Utf8.valid]; omega
  simp [Utf8.encode, v, h]
/-- the text of a digit -/
theorem enc_digit (x : Nat) (h : x < 10) : Utf8.encode (48 + (x : Int)) = ⟨#[UInt8.ofNat (48 + x)]⟩ := by
  rw [show (48 : Int) + (x : Int) = ((48 + x : Nat) : Int) by omega, enc_low _ (by omega)]
theorem one_append (c : UInt8) (d : List UInt8) : (ByteArray.mk #[c]) ++ (ByteArray.mk d.toArray) = ⟨(c :: d).toArray⟩ := by
  apply ByteArray.ext
  simp [ByteArray.data_append]

/-- the digits that are written so far: those of N are those of M, and these -/
def OfRel (N M : Nat) (t : List UInt8) : Prop := Num.digs M ++ t = Num.digs N ∧ t.length ≤ 20

theorem digs_len {N : Nat} (h : N ≤ 9223372036854775808) : (Num.digs N).length ≤ 20 := by
  have h1 := canon_length_le (z := (N : Int)) (k := 19) (by simp; omega)
  have h2 : Num.canon (N : Int) = Num.digs N := by unfold Num.canon; rw [if_neg (by omega)]; simp
  rw [h2] at h1; exact h1
theorem OfRel.start {N : Nat} : OfRel N N [] := ⟨by simp, by simp⟩
theorem OfRel.step {N M : Nat} {t : List UInt8} (hN : N ≤ 9223372036854775808) (h : OfRel N M t) (h0 : M ≠ 0) : OfRel N (M / 10) (UInt8.ofNat (48 + M % 10) :: t) := by
  have h1 := h.1
  rw [digs_step h0, List.append_assoc] at h1
  refine ⟨h1, ?_⟩
  have := congrArg List.length h1
  have h2 := digs_len hN
  simp at this
  simp; omega
theorem OfRel.done {N : Nat} {t : List UInt8} (h : OfRel N 0 t) : t = Num.digs N := by
  have := h.1
  rw [show Num.digs 0 = [] from rfl] at this
  simpa using this
theorem cS_of_pos {N : Nat} : (ByteArray.mk (Num.digs N).toArray) = cS (N : Int) := by
  unfold cS Num.canon; rw [if_neg (by omega)]; simp
theorem cS_of_neg {N : Nat} (h : N ≠ 0) : (ByteArray.mk #[45]) ++ (ByteArray.mk (Num.digs N).toArray) = cS (-(N : Int)) := by
  rw [minus_append]; unfold cS Num.canon; rw [if_pos (by omega)]; simp
set_option maxRecDepth 100000 in
set_option maxHeartbeats 1000000 in
theorem rOf_zero (w : World) : Calls Tryz.prog 114 #[.int .i64 0] w fun e w' => e = .returned (.string (cS 0)) ∧ w = w' := by
  go_enter Tryz.func114, Tryz.ntmps114
  go_wp2
  go_ret
  exact ⟨rfl, rfl⟩

set_option maxRecDepth 100000 in
set_option maxHeartbeats 1000000 in
theorem rOf_pos (N : Int) (w : World) (h0 : 0 < N) (h1 : N ≤ 9223372036854775807) :
    Calls Tryz.prog 114 #[.int .i64 N] w fun e w' => e = .returned (.string (cS N)) ∧ w = w' := by
  have hz : (N == 0) = false := by rw [beq_eq_false_iff_ne]; omega
  have hb0 : ¬ N < 0 := by omega
  go_enter Tryz.func114, Tryz.ntmps114
  go_wp2_with fail
  go_loop [3, 4] (fun tv mv => ∃ (m : Int) (t : List UInt8), 0 ≤ m ∧ m ≤ N ∧ mv = .int .i64 m ∧ tv = .string ⟨t.toArray⟩ ∧ OfRel N.toNat m.toNat t) (fun _ mv => (intOf mv).toNat)
  case atStart => exact ⟨N, [], by omega, Int.le_refl _, rfl, rfl, OfRel.start⟩
  case round =>
    obtain ⟨m, t, hm0, hM, rfl, rfl, hr⟩ := hrel
    have htl := hr.2
    have HR := Lib.hid hr
    clear hr
    by_cases hz : m = 0
    · subst hz
      have H := Lib.hid (show (ByteArray.mk t.toArray) = cS N by
        rw [show t = Num.digs N.toNat from HR.out.done, cS_of_pos]
        rw [show ((N.toNat : Nat) : Int) = N by omega])
      clear HR
      go_wp2_with fail
      go_ret
      exact ⟨by rw [← H.out]; rfl, rfl⟩
    · have hb2 : (m != 0) = true := by rw [bne_iff_ne]; omega
      have hs := HR.out.step (by omega) (by omega)
      obtain ⟨d, hd⟩ : ∃ d, d = m.toNat % 10 := ⟨_, rfl⟩
      rw [← hd] at hs
      have hE := enc_digit d (by omega)
      obtain ⟨c, hc⟩ : ∃ c, c = UInt8.ofNat (48 + d) := ⟨_, rfl⟩
      rw [← hc] at hs hE
      obtain ⟨z, hzz⟩ : ∃ z : Int, z = (d : Int) := ⟨_, rfl⟩
      rw [← hzz] at hE
      have hmod : m % 10 = z := by omega
      have hz0 : 0 ≤ z := by omega
      have hz9 : z ≤ 9 := by omega
      have hdiv : m.toNat / 10 = (m / 10).toNat := by omega
      rw [hdiv] at hs
      have HS := Lib.hid hs
      have hmp : 0 < m := by omega
      clear hz hs hd hc hzz hdiv
      have hmq : m.tmod 10 = z := by rw [Int.tmod_eq_emod_of_nonneg hm0]; exact hmod
      go_wp2_with fail
      go_round
      case rel => exact ⟨m / 10, _, by omega, by omega, by go_num, by rw [← one_append]; rfl, HS.out⟩
      case measure => simp [intOf]; omega

set_option maxRecDepth 100000 in
set_option maxHeartbeats 1000000 in
theorem rOf_neg (N : Int) (w : World) (h0 : 0 < N) (h1 : N ≤ 9223372036854775808) :
    Calls Tryz.prog 114 #[.int .i64 (-N)] w fun e w' => e = .returned (.string (cS (-N))) ∧ w = w' := by
  have hz : (-N == 0) = false := by rw [beq_eq_false_iff_ne]; omega
  have hb0 : -N < 0 := by omega
  go_enter Tryz.func114, Tryz.ntmps114
  go_wp2_with fail
  go_loop [3, 4] (fun tv mv => ∃ (m : Int) (t : List UInt8), 0 ≤ m ∧ m ≤ N ∧ mv = .int .i64 (-m) ∧ tv = .string ⟨t.toArray⟩ ∧ OfRel N.toNat m.toNat t) (fun _ mv => (-(intOf mv)).toNat)
  case atStart => exact ⟨N, [], by omega, Int.le_refl _, rfl, rfl, OfRel.start⟩
  case round =>
    obtain ⟨m, t, hm0, hM, rfl, rfl, hr⟩ := hrel
    have htl := hr.2
    have HR := Lib.hid hr
    clear hr
    by_cases hz : m = 0
    · subst hz
      have H := Lib.hid (show (ByteArray.mk #[45]) ++ (ByteArray.mk t.toArray) = cS (-N) by
        rw [show t = Num.digs N.toNat from HR.out.done, cS_of_neg (by omega)]
        rw [show ((N.toNat : Nat) : Int) = N by omega])
      clear HR
      go_wp2_with fail
      go_ret
      exact ⟨by rw [← H.out]; rfl, rfl⟩
    · have hb2 : ((-m) != 0) = true := by rw [bne_iff_ne]; omega
      have hs := HR.out.step (by omega) (by omega)
      obtain ⟨d, hd⟩ : ∃ d, d = m.toNat % 10 := ⟨_, rfl⟩
      rw [← hd] at hs
      have hE := enc_digit d (by omega)
      obtain ⟨c, hc⟩ : ∃ c, c = UInt8.ofNat (48 + d) := ⟨_, rfl⟩
      rw [← hc] at hs hE
      obtain ⟨z, hzz⟩ : ∃ z : Int, z = (d : Int) := ⟨_, rfl⟩
      rw [← hzz] at hE
      have hmod : m % 10 = z := by omega
      have hz0 : 0 ≤ z := by omega
      have hz9 : z ≤ 9 := by omega
      have hdiv : m.toNat / 10 = (m / 10).toNat := by omega
      rw [hdiv] at hs
      have HS := Lib.hid hs
      have hmp : 0 < m := by omega
      clear hz hs hd hc hzz hdiv
      have hmq : (-m).tmod 10 = -z := by rw [Int.neg_tmod, Int.tmod_eq_emod_of_nonneg hm0, hmod]
      have hmd : (-m).tdiv 10 = -(m / 10) := by rw [Int.neg_tdiv, Int.tdiv_eq_ediv_of_nonneg hm0]
      by_cases hzz : z = 0
      · subst hzz
        have hmq0 : (-m).tmod 10 = 0 := by rw [hmq]; rfl
        have hE0 : Utf8.encode 48 = ⟨#[c]⟩ := by rw [← hE]; rfl
        clear hmq hmod hE
        go_wp2_with fail
        go_round
        case rel => exact ⟨m / 10, _, by omega, by omega, by go_num, by rw [← one_append]; rfl, HS.out⟩
        case measure => simp [intOf]; omega
      · have hzn : -z < 0 := by omega
        go_wp2_with fail
        go_round
        case rel => exact ⟨m / 10, _, by omega, by omega, by go_num, by rw [← one_append]; rfl, HS.out⟩
        case measure => simp [intOf]; omega

/-- Of, at every int -/
theorem rOf_any (n : Int) (w : World) (h0 : -9223372036854775808 ≤ n) (h1 : n ≤ 9223372036854775807) :
    Calls Tryz.prog 114 #[.int .i64 n] w fun e w' => e = .returned (.string (cS n)) ∧ w = w' := by
  by_cases hz : n = 0
  · subst hz; exact rOf_zero w
  · by_cases hp : 0 < n
    · exact rOf_pos n w hp h1
    · obtain ⟨m, rfl⟩ : ∃ m, n = -m := ⟨-n, by omega⟩
      exact rOf_neg m w (by omega) (by omega)

end Go.Proofs.YtahnkmkmoalbhaaGreatDoor

/- The reference implementation of layer 1: trim, group, order: walks. Slices may be nil or empty. -/
namespace Go.Proofs.YtahnkmkmoalbhaaGreatDoor
open Go.RowKit

/-- the numbers zs lie in block b from place o on: they can be read -/
structure Sr (w : World) (b o cap : Nat) (zs : List Int) : Prop where
  lt : b < w.heap.size
  le : zs.length ≤ cap
  max : cap ≤ 9223372036854775807
  lim : zs.length ≤ 1000000
  cell : ∀ i, i < zs.length → w.cell? ⟨b, o + i, none⟩ = some (.int .i64 (zs.getD i 0))

theorem Sr.below {B : Nat} {w w' : World} {b o cap : Nat} {zs : List Int} (h : Sr w b o cap zs) (hb : Below B w w') (hlt : b < B) : Sr w' b o cap zs :=
  ⟨Nat.lt_of_lt_of_le h.lt hb.size, h.le, h.max, h.lim, fun i hi => (hb.cell (p := ⟨b, o + i, none⟩) hlt).trans (h.cell i hi)⟩
theorem Sr.take {w : World} {b o cap : Nat} {zs : List Int} (h : Sr w b o cap zs) (ys : List Int) (hp : ys <+: zs) : Sr w b o cap ys :=
  ⟨h.lt, Nat.le_trans hp.length_le h.le, h.max, Nat.le_trans hp.length_le h.lim, fun i hi => by rw [h.cell i (Nat.lt_of_lt_of_le hi hp.length_le), prefix_getD hp hi]⟩
theorem Sl.sr {w : World} {b o cap : Nat} {zs : List Int} (h : Sl w b o cap zs) (hl : zs.length ≤ 1000000) : Sr w b o cap zs := ⟨h.lt, h.le, Nat.le_trans h.max (by decide), hl, h.cell⟩

/-- a slice with the address xa reads as the numbers zs; nothing is known of the address of an empty one -/
structure Rd (w : World) (xa : Option Addr) (cap : Nat) (zs : List Int) : Prop where
  lim : zs.length ≤ 1000000
  sl : 0 < zs.length → ∃ b o, xa = some ⟨b, o, none⟩ ∧ Sr w b o cap zs

theorem Rd.nil (w : World) (xa : Option Addr) (cap : Nat) : Rd w xa cap [] := ⟨by simp, fun h => by simp at h⟩
theorem Rd.below {w w' : World} {xa : Option Addr} {cap : Nat} {zs : List Int} (h : Rd w xa cap zs) (hb : Below w.heap.size w w') : Rd w' xa cap zs :=
  ⟨h.lim, fun h0 => by obtain ⟨b, o, e, hs⟩ := h.sl h0; exact ⟨b, o, e, hs.below hb hs.lt⟩⟩
theorem Rd.belowAt {B : Nat} {w w' : World} {xa : Option Addr} {cap : Nat} {zs : List Int} (h : Rd w xa cap zs) (hb : Below B w w') (hB : w.heap.size ≤ B) : Rd w' xa cap zs := h.below (hb.mono hB)
theorem Rd.drewN {w : World} {xa : Option Addr} {cap : Nat} {zs : List Int} (h : Rd w xa cap zs) (n : Nat) : Rd (w.drewN n) xa cap zs :=
  ⟨h.lim, fun h0 => by obtain ⟨b, o, e, hs⟩ := h.sl h0; exact ⟨b, o, e, ⟨hs.lt, hs.le, hs.max, hs.lim, hs.cell⟩⟩⟩
theorem Rd.setOther {w : World} {xa : Option Addr} {cap : Nat} {zs : List Int} (h : Rd w xa cap zs) {a : Addr} (hne : ∀ b o, xa = some ⟨b, o, none⟩ → b ≠ a.block) (v : Value) : Rd (w.setCell a v) xa cap zs :=
  ⟨h.lim, fun h0 => by
    obtain ⟨b, o, e, hs⟩ := h.sl h0
    exact ⟨b, o, e, by simpa [World.setCell] using hs.lt, hs.le, hs.max, hs.lim, fun i hi => (World.cell?_of_block (w := w) (a := ⟨b, o + i, none⟩) (Below.heap_setCell w a v b (hne b o e))).trans (hs.cell i hi)⟩⟩
theorem Rd.prefix {w : World} {xa : Option Addr} {cap : Nat} {zs : List Int} (h : Rd w xa cap zs) {ys : List Int} (hp : ys <+: zs) : Rd w xa cap ys :=
  ⟨Nat.le_trans hp.length_le h.lim, fun h0 => by obtain ⟨b, o, e, hs⟩ := h.sl (Nat.lt_of_lt_of_le h0 hp.length_le); exact ⟨b, o, e, hs.take ys hp⟩⟩

set_option maxHeartbeats 1000000 in
theorem rTrim_sl (w : World) (b o cap n : Nat) (zs : List Int) (hn : zs.length = n) (hz : Sr w b o cap zs) :
    Calls Tryz.prog 170 #[.slice (some ⟨b, o, none⟩) n cap] w
      fun e w' => e = .returned (.slice (some ⟨b, o, none⟩) (Num.trimmed zs).length cap) ∧ w = w' := by
  have hnc : n ≤ cap := by have := hz.le; omega
  have hmx := hz.max
  have HN := Lib.hid hn
  clear hn
  go_enter Tryz.func170, Tryz.ntmps170
  go_wp2
  go_loop [0] (fun v => ∃ k : Nat, k ≤ n ∧ v = .slice (some ⟨b, o, none⟩) k cap ∧ Num.trimmed (zs.take k) = Num.trimmed zs) (fun v => lenOf v)
  case atStart => exact ⟨n, Nat.le_refl _, rfl, by rw [List.take_of_length_le (by have := HN.out; omega)]⟩
  case round =>
    obtain ⟨k, hk, rfl, ht⟩ := hrel
    have HT := Lib.hid ht
    clear ht
    by_cases h0 : 0 < k
    · obtain ⟨j, rfl⟩ : ∃ j, k = j + 1 := ⟨k - 1, by omega⟩
      obtain ⟨x, hx⟩ : ∃ x, x = zs.getD j 0 := ⟨_, rfl⟩
      have hc : w.cell? ⟨b, o + j, none⟩ = some (.int .i64 x) := by rw [hx]; exact hz.cell j (by have := HN.out; omega)
      have HX := Lib.hid hx
      clear hx
      by_cases hx0 : x = 0
      · have hb : (x == 0) = true := by simpa using hx0
        have ht : Num.trimmed (zs.take j) = Num.trimmed zs := by
          rw [← HT.out, take_succ_getD (by have := HN.out; omega), ← HX.out, hx0, Num.trimmed_snoc_zero]
        have H := Lib.hid ht
        clear ht hx0
        go_wp2
        go_round
        case rel => exact ⟨j, by omega, rfl, H.out⟩
        case measure => simp [lenOf]
      · have hb : (x == 0) = false := by simpa using hx0
        have ht : (Num.trimmed zs).length = j + 1 := by
          rw [← HT.out, take_succ_getD (by have := HN.out; omega), ← HX.out, Num.trimmed_snoc _ hx0]
          simp; have := HN.out; omega
        have H := Lib.hid ht
        clear ht hx0
        go_wp2
        go_ret
        exact ⟨by rw [H.out]; rfl, rfl⟩
    · obtain rfl : k = 0 := by omega
      have ht : (Num.trimmed zs).length = 0 := by rw [← HT.out]; rfl
      have H := Lib.hid ht
      clear ht
      go_wp2
      go_ret
      exact ⟨by rw [H.out]; rfl, rfl⟩

set_option maxHeartbeats 1000000 in
theorem rTrim_nil (w : World) (xa : Option Addr) (cap : Nat) :
    Calls Tryz.prog 170 #[.slice xa 0 cap] w fun e w' => e = .returned (.slice xa 0 cap) ∧ w = w' := by
  go_enter Tryz.func170, Tryz.ntmps170
  go_wp2
  go_loop [0] (fun v => v = .slice xa 0 cap) (fun v => lenOf v)
  case atStart => rfl
  case round =>
    subst hrel
    go_wp2
    go_ret
    exact ⟨rfl, rfl⟩

theorem rTrim_any (w : World) (xa : Option Addr) (cap n : Nat) (zs : List Int) (hn : zs.length = n) (hz : Rd w xa cap zs) :
    Calls Tryz.prog 170 #[.slice xa n cap] w fun e w' => e = .returned (.slice xa (Num.trimmed zs).length cap) ∧ w = w' := by
  by_cases h0 : n = 0
  · subst h0
    obtain rfl : zs = [] := List.eq_nil_of_length_eq_zero hn
    exact rTrim_nil w xa cap
  · obtain ⟨b, o, rfl, hs⟩ := hz.sl (by omega)
    exact rTrim_sl w b o cap n zs hn hs

set_option maxHeartbeats 1000000 in
theorem rGroup_in (w : World) (b o cap n i : Nat) (zs : List Int) (hn : zs.length = n) (hz : Sr w b o cap zs) (hi : i < n) :
    Calls Tryz.prog 169 #[.slice (some ⟨b, o, none⟩) n cap, .int .i64 i] w fun e w' => e = .returned (.int .i64 (zs.getD i 0)) ∧ w = w' := by
  have hc := hz.cell i (by omega)
  obtain ⟨x, hx⟩ : ∃ x, x = zs.getD i 0 := ⟨_, rfl⟩
  rw [← hx] at hc ⊢
  have hnb : n ≤ 1000000 := by have := hz.lim; omega
  clear hx hn
  go_enter Tryz.func169, Tryz.ntmps169
  go_wp2
  go_ret
  exact ⟨rfl, rfl⟩

set_option maxHeartbeats 1000000 in
theorem rGroup_out (w : World) (xa : Option Addr) (cap n i : Nat) (hi : n ≤ i) :
    Calls Tryz.prog 169 #[.slice xa n cap, .int .i64 i] w fun e w' => e = .returned (.int .i64 0) ∧ w = w' := by
  have hb : ¬ i < n := by omega
  go_enter Tryz.func169, Tryz.ntmps169
  go_wp2
  go_ret
  exact ⟨rfl, rfl⟩

theorem rGroup_any (w : World) (xa : Option Addr) (cap n i : Nat) (zs : List Int) (hn : zs.length = n) (hz : Rd w xa cap zs) :
    Calls Tryz.prog 169 #[.slice xa n cap, .int .i64 i] w fun e w' => e = .returned (.int .i64 (zs.getD i 0)) ∧ w = w' := by
  by_cases hi : i < n
  · obtain ⟨b, o, rfl, hs⟩ := hz.sl (by omega)
    exact rGroup_in w b o cap n i zs hn hs hi
  · rw [show zs.getD i 0 = 0 by simp [List.getD, List.getElem?_eq_none (show zs.length ≤ i by omega)]]
    exact rGroup_out w xa cap n i (by omega)

set_option maxHeartbeats 1000000 in
theorem rOrder_ne (w : World) (xa ya : Option Addr) (cap capy n m : Nat) (hnm : n ≠ m) (z : Int) (hz : z = if n < m then -1 else 1) :
    Calls Tryz.prog 147 #[.slice xa n cap, .slice ya m capy] w fun e w' => e = .returned (.int .i64 z) ∧ w = w' := by
  have hb : ((n : Int) == (m : Int)) = false := by rw [beq_eq_false_iff_ne]; omega
  have hb2 : ((n : Int) != (m : Int)) = true := by rw [bne_iff_ne]; omega
  by_cases hlt : n < m
  · rw [if_pos hlt] at hz
    subst hz
    go_enter Tryz.func147, Tryz.ntmps147
    go_wp2
    go_ret
    exact ⟨rfl, rfl⟩
  · rw [if_neg hlt] at hz
    subst hz
    go_enter Tryz.func147, Tryz.ntmps147
    go_wp2
    go_ret
    exact ⟨rfl, rfl⟩

set_option maxHeartbeats 1000000 in
theorem rOrder_zero (w : World) (xa ya : Option Addr) (cap capy : Nat) :
    Calls Tryz.prog 147 #[.slice xa 0 cap, .slice ya 0 capy] w fun e w' => e = .returned (.int .i64 0) ∧ w = w' := by
  go_enter Tryz.func147, Tryz.ntmps147
  go_wp2
  go_loop [5] (fun i => i = .int .i64 (-1)) (fun i => (intOf i + 1).toNat)
  case atStart => rfl
  case round =>
    subst hrel
    go_wp2
    go_ret
    exact ⟨rfl, rfl⟩

set_option maxHeartbeats 1000000 in
theorem rOrder_eq (w : World) (b o cap ob oy capy n : Nat) (xs ys : List Int) (hn : xs.length = n) (hm : ys.length = n) (hx : Sr w b o cap xs) (hy : Sr w ob oy capy ys) (cx : Num.Can xs) (cy : Num.Can ys) :
    Calls Tryz.prog 147 #[.slice (some ⟨b, o, none⟩) n cap, .slice (some ⟨ob, oy, none⟩) n capy] w
      fun e w' => e = .returned (.int .i64 (cmp3 (Num.gval xs) (Num.gval ys))) ∧ ∃ k, w' = w.drewN k := by
  have hnb : n ≤ 1000000 := by have := hx.lim; omega
  have HN := Lib.hid hn
  have HM := Lib.hid hm
  clear hn hm
  have hb : ((n : Int) == n) = true := by simp
  go_enter Tryz.func147, Tryz.ntmps147
  go_wp2
  go_loopw [5] (fun i wr => ∃ z : Int, -1 ≤ z ∧ z < n ∧ i = .int .i64 z ∧ xs.drop (z + 1).toNat = ys.drop (z + 1).toNat ∧ ∃ q, wr = w.drewN q) (fun i _ => (intOf i + 1).toNat)
  case atStart => exact ⟨n - 1, by omega, by omega, rfl, by rw [List.drop_of_length_le (by have := HN.out; omega), List.drop_of_length_le (by have := HM.out; omega)], 0, rfl⟩
  case round =>
    obtain ⟨z, hz0, hz1, rfl, he, q, rfl⟩ := hrel
    have HE := Lib.hid he
    clear he
    by_cases hneg : z < 0
    · have hr : cmp3 (Num.gval xs) (Num.gval ys) = 0 := by
        have := HE.out
        rw [show (z + 1).toNat = 0 by omega] at this
        simp at this
        rw [this]; exact cmp3_eq rfl
      have H := Lib.hid hr
      clear hr
      go_wp2
      go_ret
      exact ⟨by rw [H.out]; rfl, q, rfl⟩
    · obtain ⟨j, rfl⟩ := Int.eq_ofNat_of_zero_le (show 0 ≤ z by omega)
      obtain ⟨x, hxx⟩ : ∃ x, x = xs.getD j 0 := ⟨_, rfl⟩
      obtain ⟨y, hyy⟩ : ∃ y, y = ys.getD j 0 := ⟨_, rfl⟩
      have hcx : w.cell? ⟨b, o + j, none⟩ = some (.int .i64 x) := by rw [hxx]; exact hx.cell j (by have := HN.out; omega)
      have hcy : w.cell? ⟨ob, oy + j, none⟩ = some (.int .i64 y) := by rw [hyy]; exact hy.cell j (by have := HM.out; omega)
      have HX := Lib.hid hxx
      have HY := Lib.hid hyy
      clear hxx hyy
      by_cases hxy : x = y
      · have hb2 : ¬ x < y := by omega
        have hb3 : ¬ y < x := by omega
        have hd : xs.drop j = ys.drop j := by
          have h1 := HN.out; have h2 := HM.out
          have h3 := HE.out
          rw [show ((j : Int) + 1).toNat = j + 1 by omega] at h3
          rw [List.drop_eq_getElem_cons (show j < xs.length by omega), List.drop_eq_getElem_cons (show j < ys.length by omega), h3]
          congr 1
          have e1 := HX.out; have e2 := HY.out
          simp [List.getD, show j < xs.length by omega] at e1
          simp [List.getD, show j < ys.length by omega] at e2
          rw [← e1, ← e2, hxy]
        have H := Lib.hid hd
        clear hd hxy
        go_wp2
        go_quiet (fail)
        go_wp2
        go_quiet (fail)
        go_wp2
        go_roundw
        case rel => exact ⟨_, by omega, by omega, rfl, by rw [show ((j : Int) - 1 + 1).toNat = j by omega]; exact H.out, _, rfl⟩
        case measure => simp [intOf]
      · have hr : cmp3 (Num.gval xs) (Num.gval ys) = if x < y then -1 else 1 := by
          have h1 := HN.out; have h2 := HM.out
          have h3 := HE.out
          rw [show ((j : Int) + 1).toNat = j + 1 by omega] at h3
          have e1 := HX.out; have e2 := HY.out
          simp [List.getD, show j < xs.length by omega] at e1
          simp [List.getD, show j < ys.length by omega] at e2
          by_cases hlt : x < y
          · rw [cmp3_lt (Num.gval_lt_at cx.1 cy.1 j (by omega) (by omega) h3 (by rw [← e1, ← e2]; exact hlt)), if_pos hlt]
          · rw [cmp3_gt (Num.gval_lt_at cy.1 cx.1 j (by omega) (by omega) h3.symm (by rw [← e1, ← e2]; omega)), if_neg hlt]
        by_cases hlt : x < y
        · rw [if_pos hlt] at hr
          have H := Lib.hid hr
          clear hr hxy
          go_wp2
          go_quiet (fail)
          go_wp2
          go_ret
          exact ⟨by rw [H.out]; rfl, _, by rw [World.drewN_drewN]⟩
        · rw [if_neg hlt] at hr
          have hgt : y < x := by omega
          have H := Lib.hid hr
          clear hr hxy
          go_wp2
          go_quiet (fail)
          go_wp2
          go_quiet (fail)
          go_wp2
          go_ret
          exact ⟨by rw [H.out]; rfl, _, by rw [World.drewN_drewN, World.drewN_drewN]⟩

theorem rOrder_any (w : World) (xa ya : Option Addr) (cap capy n m : Nat) (xs ys : List Int) (hn : xs.length = n) (hm : ys.length = m) (hx : Rd w xa cap xs) (hy : Rd w ya capy ys) (cx : Num.Can xs) (cy : Num.Can ys) :
    Calls Tryz.prog 147 #[.slice xa n cap, .slice ya m capy] w
      fun e w' => e = .returned (.int .i64 (cmp3 (Num.gval xs) (Num.gval ys))) ∧ ∃ k, w' = w.drewN k := by
  by_cases hnm : n = m
  · subst hnm
    by_cases h0 : n = 0
    · subst h0
      obtain rfl : xs = [] := List.eq_nil_of_length_eq_zero hn
      obtain rfl : ys = [] := List.eq_nil_of_length_eq_zero hm
      exact (rOrder_zero w xa ya cap capy).mono fun e w' h => ⟨h.1, 0, h.2 ▸ rfl⟩
    · obtain ⟨b, o, rfl, hs⟩ := hx.sl (by omega)
      obtain ⟨ob, oy, rfl, ht⟩ := hy.sl (by omega)
      exact rOrder_eq w b o cap ob oy capy n xs ys hn hm hs ht cx cy
  · refine (rOrder_ne w xa ya cap capy n m hnm _ rfl).mono fun e w' h => ⟨?_, 0, h.2 ▸ rfl⟩
    rw [h.1]
    by_cases hlt : n < m
    · rw [if_pos hlt, cmp3_lt (Num.gval_lt_of_length cx cy (by omega))]
    · rw [if_neg hlt, cmp3_gt (Num.gval_lt_of_length cy cx (by omega))]

end Go.Proofs.YtahnkmkmoalbhaaGreatDoor

/- The reference implementation of layer 1: plus, minus: walks. -/
namespace Go.Proofs.YtahnkmkmoalbhaaGreatDoor
open Go.RowKit
open Num (Part)

/-- the slice value v owns the numbers zs -/
def Own (w : World) (base : Nat) (v : Value) (zs : List Int) : Prop := w.ownsRow base 3 1 v zs.length (zs.map (Value.int .i64))

/-- the result of a function that makes a new row: a slice with these numbers -/
def NewRd (w : World) (zs : List Int) (e : Ending) (w' : World) : Prop :=
  ∃ xa cap, e = .returned (.slice xa zs.length cap) ∧ Rd w' xa cap zs ∧ Below w.heap.size w w' ∧ (∀ b o, xa = some ⟨b, o, none⟩ → w.heap.size ≤ b) ∧ (xa = none → cap = 0)

theorem addr_add (g j : Nat) : (⟨g, 0, none⟩ : Addr).add j = ⟨g, j, none⟩ := by unfold Addr.add; split <;> simp_all
theorem Own.rd {w : World} {base : Nat} {v : Value} {zs : List Int} (h : Own w base v zs) (hl : zs.length ≤ 1000000) : ∃ xa cap, v = .slice xa zs.length cap ∧ Rd w xa cap zs := by
  rcases h.2 with ⟨rfl, h0⟩ | ⟨g, cap, cur, rfl, hb, hg, hnc, hcm, hcs, ht⟩
  · exact ⟨none, 0, by rw [h0], hl, fun hp => by omega⟩
  · refine ⟨some ⟨g, 0, none⟩, cap, rfl, hl, fun _ => ⟨g, 0, rfl, (Array.getElem?_eq_some_iff.1 hg).1, hnc, hcm, hl, fun i hi => ?_⟩⟩
    have := World.ownsRow.cells h (g := g) rfl i (.int .i64 (zs.getD i 0)) (by simp [List.getD, hi])
    rw [Nat.zero_add, ← this, addr_add]
theorem Own.at {w : World} {base : Nat} {n c : Nat} {xa : Option Addr} {zs : List Int} (h : Own w base (.slice xa n c) zs) : ∀ b o, xa = some ⟨b, o, none⟩ → base ≤ b := by
  rintro b o rfl
  exact (World.ownsRow.lt h b rfl).1
theorem Own.nilcap {w : World} {base : Nat} {n c : Nat} {xa : Option Addr} {zs : List Int} (h : Own w base (.slice xa n c) zs) : xa = none → c = 0 := by
  rintro rfl
  rcases h.2 with ⟨e, _⟩ | ⟨g, cap, cur, e, _⟩
  · injection e
  · injection e with e; exact absurd e (by simp)
theorem Own.kept {w w' : World} {base : Nat} {v : Value} {l : List Int} (h : Own w base v l) (hb : Below w.heap.size w w') : Own w' base v l := by
  refine World.ownsRow.kept h (grown_of_below hb none) ?_
  cases hv : v.ownBlock with
  | none => exact .inl rfl
  | some b => exact .inr (by simp)
theorem Own.alloc {w : World} {base : Nat} {v : Value} {l : List Int} (h : Own w base v l) (o : Obj) : Own (w.alloc o) base v l := World.ownsRow.alloc h o
theorem Own.empty (w : World) : Own (w.alloc (.cells #[] 3)) w.heap.size (.slice (some ⟨w.heap.size, 0, none⟩) 0 0) [] :=
  World.ownsRow_made w #[] 0 (Nat.le_refl _) (by unfold maxLen; omega) rfl
theorem Own.nil (w : World) (base : Nat) : Own w base (.slice none 0 0) [] := World.ownsRow_nil w base _ 1

theorem Own.add {w : World} {base : Nat} {v : Value} {l : List Int} (h : Own w base v l) (c : Int) (g : Nat) (hg : w.cell? ⟨g, 0, none⟩ = some (.int .i64 c)) (ty : TypeId) (hs : l.length + 1 ≤ 10000000) (hb : base ≤ w.heap.size) :
    ∃ v' w', (Builtin.append_ #[85, 85] ty #[v, .slice (some ⟨g, 0, none⟩) 1 1]).run Tryz.prog w = .ok v' w' ∧ Own w' base v' (l ++ [c]) ∧ Below base w w' := by
  obtain ⟨i0, hi, hz0, hz1, hz2⟩ := info_parts info_int
  obtain ⟨v', w', h1, h2, h3, _⟩ := run_append_own (P := Tryz.prog) w base 85 ty 3 i0 (.int .i64 0) 1 8 Tryz.underlying85 hi hz0 hz1 hz2 rfl (by decide) v l.length _ h ⟨g, 0, none⟩ 1 1 [.int .i64 c] rfl
    (fun j u hj => by
      match j, hj with
      | 0, hj => simp at hj; subst hj; simpa [Addr.add] using hg
      | j + 1, hj => simp at hj)
    (fun u hu => by simp at hu; subst hu; rfl) (by unfold maxLen; omega) (by omega) hb
  refine ⟨v', w', h1, ?_, (Below.refl base w).grown h3 hb (fun k hk => (World.ownsRow.lt h k hk).1)⟩
  unfold Own
  rw [List.length_append, List.map_append]
  exact h2

theorem wp_addInt {w : World} {ops : Array Oper} {rest : List Oper} {o : Oper} {a : Act} {Q : Exit → Act → World → Prop} (hgd : o.guard = none) (sl x : Operand)
    (ho : o.op = .call { callee := .builtin .append, args := #[sl, x], argTypes := #[85, 85] })
    (base : Nat) (v : Value) (l : List Int) (hs : a.eval sl = v) (h : Own w base v l) (c : Int) (g : Nat) (hg : w.cell? ⟨g, 0, none⟩ = some (.int .i64 c)) (hx : a.eval x = .slice (some ⟨g, 0, none⟩) 1 1) (hl : l.length + 1 ≤ 10000000) (hb : base ≤ w.heap.size)
    (hK : ∀ v' w', Own w' base v' (l ++ [c]) → Below base w w' → wpList Tryz.prog ops Q rest (a.put o.dst v') w') : wpList Tryz.prog ops Q (o :: rest) a w := by
  refine wpList_plain hgd fun K hK' => ?_
  obtain ⟨v', w', hr, h2, h3⟩ := h.add c g hg o.type hl hb
  unfold Oper.wp execOp
  simp only [ho, resolve, invoke, builtin, Sem.run_bind, Sem.run_pure, Result.andThen_ok, List.map_toArray, List.map_cons, List.map_nil, hs, hx, hr]
  exact hK' _ _ (hK v' w' h2 h3)

theorem one_cell (w : World) (z : Int) (q : Nat) : ((w.drewN q).alloc (.cells #[.int .i64 z] 3)).cell? ⟨w.heap.size, 0, none⟩ = some (.int .i64 z) := by
  have h : Row ((w.drewN q).alloc (.cells #[.int .i64 z] 3)) w.heap.size [z] := by unfold Row; exact heap_alloc_new (w.drewN q) _
  exact h.cell (i := 0) (by simp)
/-- k places of a sum or difference are done -/
structure SumRel (w : World) (xs ys : List Int) (f : Int) (k : Nat) (c : Int) (ov : Value) (wr : World) (ws : List Int) : Prop where
  part : Part xs ys f k ws c
  own : Own wr w.heap.size ov ws
  below : Below w.heap.size w wr

set_option maxRecDepth 100000 in
set_option maxHeartbeats 1000000 in
theorem rPlus_any (w : World) (xa ya : Option Addr) (cap capy n m : Nat) (xs ys : List Int) (hn : xs.length = n) (hm : ys.length = m) (hx : Rd w xa cap xs) (hy : Rd w ya capy ys) (cx : Num.Can xs) (cy : Num.Can ys) (hlim : n ≤ 900000 ∧ m ≤ 900000) (zs : List Int) (hz : Num.Can zs) (hg : Num.gval zs = Num.gval xs + Num.gval ys) :
    Calls Tryz.prog 146 #[.slice xa n cap, .slice ya m capy] w (NewRd w zs) := by
  have HN := Lib.hid hn
  have HM := Lib.hid hm
  have HGZ := Lib.hid hg
  obtain ⟨l, hl⟩ : ∃ l, l = max n m := ⟨_, rfl⟩
  have hl1 : n ≤ l ∧ m ≤ l ∧ l ≤ 900000 := by omega
  clear hn hm hg hl
  have hst : SumRel w xs ys 1 0 0 (.slice (some ⟨w.heap.size, 0, none⟩) 0 0) (w.alloc (.cells #[] 3)) [] := ⟨Part.start _ _ _, Own.empty w, (Below.refl _ _).alloc (Nat.le_refl _) _⟩
  have HS := Lib.hid hst
  clear hst
  go_enter Tryz.func146, Tryz.ntmps146
  go_wp2_with fail
  go_loopw [5, 6, 7] (fun ov cv iv wr => ∃ (k : Nat) (c : Int) (ws : List Int), iv = .int .i64 k ∧ cv = .int .i64 c ∧ k ≤ l + 1 ∧ (k = l + 1 → c = 0) ∧ 0 ≤ c ∧ c ≤ 1 ∧ SumRel w xs ys 1 k c ov wr ws) (fun _ _ iv _ => l + 2 - (intOf iv).toNat)
  case atStart => exact ⟨0, 0, [], rfl, rfl, by omega, fun _ => rfl, by omega, by omega, HS.out⟩
  case round =>
    clear HS
    obtain ⟨k, c, ws, rfl, rfl, hk, hkc, hc0, hc1, hr⟩ := hrel
    have hwl : ws.length = k := hr.part.len
    have HR := Lib.hid hr
    have HW := Lib.hid hwl
    have HKC := Lib.hid hkc
    clear hr hwl hkc
    by_cases hgo : k < n ∨ k < m ∨ 0 < c
    · have hkl : k ≤ l := by
        by_cases h : k = l + 1
        · have := HKC.out h; omega
        · omega
      have hw3 : (k < n) ∨ (¬ k < n ∧ k < m) ∨ (¬ k < n ∧ ¬ k < m ∧ 0 < c) := by omega
      obtain ⟨s, hs⟩ : ∃ s, s = xs.getD k 0 := ⟨_, rfl⟩
      obtain ⟨t, ht⟩ : ∃ t, t = ys.getD k 0 := ⟨_, rfl⟩
      have hsb := cx.1.getD k
      have htb := cy.1.getD k
      rw [← hs] at hsb
      rw [← ht] at htb
      unfold Num.B at hsb htb
      obtain ⟨N, hN⟩ : ∃ N, s + t + c = N := ⟨_, rfl⟩
      obtain ⟨X, hX⟩ : ∃ X, N % 1000000000 = X := ⟨_, rfl⟩
      obtain ⟨C, hC⟩ : ∃ C, N / 1000000000 = C := ⟨_, rfl⟩
      have hNb : 0 ≤ N ∧ N ≤ 1999999999 := by omega
      have hCb : 0 ≤ C ∧ C ≤ 1 := by omega
      have hCz : k = l → C = 0 := fun h => by
        have h1 : s = 0 := by rw [hs]; have := HN.out; simp [List.getD, List.getElem?_eq_none (show xs.length ≤ k by omega)]
        have h2 : t = 0 := by rw [ht]; have := HM.out; simp [List.getD, List.getElem?_eq_none (show ys.length ≤ k by omega)]
        omega
      have hp : Part xs ys 1 (k + 1) (ws ++ [X]) C := by
        have := HR.out.part.step (s := s) (t := t) (n := N) hs ht hsb.1 (by unfold Num.B; omega) (by omega) (by omega)
        unfold Num.B at this
        rw [hX, hC] at this; exact this
      have HP := Lib.hid hp
      have HCZ := Lib.hid hCz
      have HS := Lib.hid hs
      have HT := Lib.hid ht
      have hO := HR.out.own.alloc (.cells #[.int .i64 X] 3)
      have HO := Lib.hid hO
      have hB := HR.out.below.alloc HR.out.below.size (.cells #[.int .i64 X] 3)
      have HB := Lib.hid hB
      have hx1 := hx.below HR.out.below
      have hy1 := hy.below HR.out.below
      clear hs ht hp hO hB hCz hgo
      rcases hw3 with h1 | ⟨h1, h2⟩ | ⟨h1, h2, h3⟩
      all_goals
        go_wp2_with fail
        refine (rGroup_any wr xa cap n k xs HN.out hx1).mono ?_
        rintro e _ ⟨rfl, rfl⟩
        rw [← HS.out]
        go_wp2_with fail
        refine (rGroup_any wr ya capy m k ys HM.out hy1).mono ?_
        rintro e _ ⟨rfl, rfl⟩
        rw [← HT.out]
        go_wp2_with (at_builtin; refine wp_addInt rfl _ _ rfl w.heap.size _ _ rfl HO.out X wr.heap.size (by simp) rfl (by have := HW.out; omega) HB.out.size ?_; intro v1 W1 hO1 hB1; have HO1 := Lib.hid hO1; have HB1 := Lib.hid (HB.out.trans hB1); clear hO1 hB1)
        go_roundw
        case rel => exact ⟨k + 1, C, ws ++ [X], by go_num, by rw [hC], by omega, fun h => HCZ.out (by omega), by omega, by omega, HP.out, HO1.out, HB1.out⟩
        case measure => simp [intOf]; omega
    · have h1 : ¬ k < n := by omega
      have h2 : ¬ k < m := by omega
      have h3 : ¬ 0 < c := by omega
      have h4 : c = 0 := by omega
      obtain ⟨va, vc, hv, hrd⟩ := HR.out.own.rd (by have := HW.out; omega)
      have htr : Num.trimmed ws = zs := by
        refine Num.gval_inj (Num.Can.trimmed HR.out.part.norm) hz ?_
        have := HR.out.part.eq
        rw [List.take_of_length_le (by have := HN.out; omega), List.take_of_length_le (by have := HM.out; omega), h4] at this
        rw [Num.gval_trimmed, HGZ.out]; omega
      have hpre := hrd.prefix (Num.trimmed_prefix ws)
      rw [htr] at hpre
      have HTR := Lib.hid htr
      subst hv
      have HAT := Lib.hid (Own.at HR.out.own)
      have HNC := Lib.hid (Own.nilcap HR.out.own)
      clear hgo h4 htr
      go_wp2_with fail
      refine (rTrim_any wr va vc ws.length ws rfl hrd).mono ?_
      rintro e _ ⟨rfl, rfl⟩
      go_wp2_with fail
      go_ret
      exact ⟨va, vc, by rw [HTR.out]; rfl, hpre, HR.out.below, HAT.out, HNC.out⟩

set_option maxRecDepth 100000 in
set_option maxHeartbeats 1000000 in
theorem rMinus_any (w : World) (xa ya : Option Addr) (cap capy n m : Nat) (xs ys : List Int) (hn : xs.length = n) (hm : ys.length = m) (hx : Rd w xa cap xs) (hy : Rd w ya capy ys) (cx : Num.Can xs) (cy : Num.Can ys) (hlim : n ≤ 900000) (zs : List Int) (hz : Num.Can zs) (hg : Num.gval zs = Num.gval xs - Num.gval ys) :
    Calls Tryz.prog 148 #[.slice xa n cap, .slice ya m capy] w (NewRd w zs) := by
  have hmn : m ≤ n := by
    by_cases h : n < m
    · have := Num.gval_lt_of_length cx cy (by omega)
      have := Num.gval_nonneg hz.1
      omega
    · omega
  have hz0 := Num.gval_nonneg hz.1
  have HN := Lib.hid hn
  have HM := Lib.hid hm
  have HGZ := Lib.hid hg
  have HZ0 := Lib.hid hz0
  clear hn hm hg hz0
  have hst : SumRel w xs ys (-1) 0 0 (.slice (some ⟨w.heap.size, 0, none⟩) 0 0) (w.alloc (.cells #[] 3)) [] := ⟨Part.start _ _ _, Own.empty w, (Below.refl _ _).alloc (Nat.le_refl _) _⟩
  have HS := Lib.hid hst
  clear hst
  go_enter Tryz.func148, Tryz.ntmps148
  go_wp2_with fail
  go_loopw [5, 6, 7] (fun ov cv iv wr => ∃ (k : Nat) (c : Int) (ws : List Int), iv = .int .i64 k ∧ cv = .int .i64 c ∧ k ≤ n ∧ 0 ≤ c ∧ c ≤ 1 ∧ SumRel w xs ys (-1) k (-c) ov wr ws) (fun _ _ iv _ => n - (intOf iv).toNat)
  case atStart => exact ⟨0, 0, [], rfl, rfl, by omega, by omega, by omega, HS.out⟩
  case round =>
    clear HS
    obtain ⟨k, c, ws, rfl, rfl, hk, hc0, hc1, hr⟩ := hrel
    have hwl : ws.length = k := hr.part.len
    have HR := Lib.hid hr
    have HW := Lib.hid hwl
    clear hr hwl
    by_cases hgo : k < n
    · obtain ⟨s, hs⟩ : ∃ s, s = xs.getD k 0 := ⟨_, rfl⟩
      obtain ⟨t, ht⟩ : ∃ t, t = ys.getD k 0 := ⟨_, rfl⟩
      have hsb := cx.1.getD k
      have htb := cy.1.getD k
      rw [← hs] at hsb
      rw [← ht] at htb
      unfold Num.B at hsb htb
      obtain ⟨b, o, rfl, hsr⟩ := hx.sl (by have := HN.out; omega)
      have hcell : wr.cell? ⟨b, o + k, none⟩ = some (.int .i64 s) := by
        rw [hs]; exact (hsr.below HR.out.below hsr.lt).cell k (by have := HN.out; omega)
      obtain ⟨N, hN⟩ : ∃ N, s - t - c = N := ⟨_, rfl⟩
      have hNb : -1000000000 ≤ N ∧ N ≤ 999999999 := by omega
      have HS := Lib.hid hs
      have HT := Lib.hid ht
      have hgr : ∀ q, Calls Tryz.prog 169 #[.slice ya m capy, .int .i64 k] (wr.drewN q) fun e w' => e = .returned (.int .i64 t) ∧ w' = wr.drewN q := fun q => by
        rw [ht]; exact (rGroup_any _ ya capy m k ys HM.out ((hy.below HR.out.below).drewN q)).mono fun _ _ h => ⟨h.1, h.2.symm⟩
      have HGR := Lib.hid hgr
      have hw1 : IntKind.i64.wrap (s - t) = s - t := IntWalk.i64_in _ (by omega)
      have hw2 : IntKind.i64.wrap (s - t - c) = s - t - c := IntWalk.i64_in _ (by omega)
      have hcapb : n ≤ cap := by have := hsr.le; have := HN.out; omega
      have hcapm := hsr.max
      clear hs ht hgr
      by_cases hneg : N < 0
      · have hp : Part xs ys (-1) (k + 1) (ws ++ [(N + 1000000000)]) (-1) := by
          have := HR.out.part.step (s := s) (t := t) (n := N) HS.out HT.out hsb.1 (by unfold Num.B; omega) (by omega) (by omega)
          unfold Num.B at this
          rw [show N % 1000000000 = (N + 1000000000) by omega, show N / 1000000000 = -1 by omega] at this; exact this
        have HP := Lib.hid hp
        have hO := fun (q : Nat) => And.intro ((HR.out.own.kept (below_drewN (Below.refl wr.heap.size wr) q)).alloc (.cells #[.int .i64 (N + 1000000000)] 3)) ((below_drewN HR.out.below q).alloc HR.out.below.size (.cells #[.int .i64 (N + 1000000000)] 3))
        have HO := Lib.hid hO
        clear hp hO
        go_wp2_with fail
        go_quiet ((go_at_call 169; exact Calls.quiet_of_same (HGR.out _)))
        go_wp2_with (at_builtin; refine wp_addInt rfl _ _ rfl w.heap.size _ _ rfl (HO.out _).1 (N + 1000000000) wr.heap.size (one_cell wr (N + 1000000000) _) rfl (by have := HW.out; omega) (HO.out _).2.size ?_; intro v1 W1 hO1 hB1; have HO1 := Lib.hid hO1; have HB1 := Lib.hid ((HO.out _).2.trans hB1); clear hO1 hB1)
        go_roundw
        case rel => exact ⟨k + 1, 1, ws ++ [(N + 1000000000)], by go_num, rfl, by omega, by omega, by omega, HP.out, HO1.out, HB1.out⟩
        case measure => simp [intOf]; omega
      · have hp : Part xs ys (-1) (k + 1) (ws ++ [N]) (-0) := by
          have := HR.out.part.step (s := s) (t := t) (n := N) HS.out HT.out hsb.1 (by unfold Num.B; omega) (by omega) (by omega)
          unfold Num.B at this
          rw [show N % 1000000000 = N by omega, show N / 1000000000 = -0 by omega] at this; exact this
        have HP := Lib.hid hp
        have hO := fun (q : Nat) => And.intro ((HR.out.own.kept (below_drewN (Below.refl wr.heap.size wr) q)).alloc (.cells #[.int .i64 N] 3)) ((below_drewN HR.out.below q).alloc HR.out.below.size (.cells #[.int .i64 N] 3))
        have HO := Lib.hid hO
        clear hp hO
        go_wp2_with fail
        go_quiet ((go_at_call 169; exact Calls.quiet_of_same (HGR.out _)))
        go_wp2_with (at_builtin; refine wp_addInt rfl _ _ rfl w.heap.size _ _ rfl (HO.out _).1 N wr.heap.size (one_cell wr N _) rfl (by have := HW.out; omega) (HO.out _).2.size ?_; intro v1 W1 hO1 hB1; have HO1 := Lib.hid hO1; have HB1 := Lib.hid ((HO.out _).2.trans hB1); clear hO1 hB1)
        go_roundw
        case rel => exact ⟨k + 1, 0, ws ++ [N], by go_num, rfl, by omega, by omega, by omega, HP.out, HO1.out, HB1.out⟩
        case measure => simp [intOf]; omega
    · obtain rfl : k = n := by omega
      obtain ⟨va, vc, hv, hrd⟩ := HR.out.own.rd (by have := HW.out; omega)
      have h4 : c = 0 := by
        have h5 := HR.out.part.eq
        rw [List.take_of_length_le (by have := HN.out; omega), List.take_of_length_le (by have := HM.out; omega)] at h5
        have h6 := Num.gval_lt HR.out.part.norm
        rw [HW.out] at h6
        have h7 := HZ0.out
        rw [HGZ.out] at h7
        by_cases h : c = 0
        · exact h
        · obtain rfl : c = 1 := by omega
          exfalso
          rw [Int.mul_neg, Int.mul_one] at h5
          omega
      have htr : Num.trimmed ws = zs := by
        refine Num.gval_inj (Num.Can.trimmed HR.out.part.norm) hz ?_
        have := HR.out.part.eq
        rw [List.take_of_length_le (by have := HN.out; omega), List.take_of_length_le (by have := HM.out; omega), h4] at this
        rw [Num.gval_trimmed, HGZ.out]; omega
      have hpre := hrd.prefix (Num.trimmed_prefix ws)
      rw [htr] at hpre
      have HTR := Lib.hid htr
      subst hv
      have HAT := Lib.hid (Own.at HR.out.own)
      have HNC := Lib.hid (Own.nilcap HR.out.own)
      clear hgo h4 htr
      go_wp2_with fail
      refine (rTrim_any wr va vc ws.length ws rfl hrd).mono ?_
      rintro e _ ⟨rfl, rfl⟩
      go_wp2_with fail
      go_ret
      exact ⟨va, vc, by rw [HTR.out]; rfl, hpre, HR.out.below, HAT.out, HNC.out⟩

end Go.Proofs.YtahnkmkmoalbhaaGreatDoor

/- The reference implementation of layer 1: times: the walk. -/
namespace Go.Proofs.YtahnkmkmoalbhaaGreatDoor
open Go.RowKit
open Num (Part put Filled)

/-- k places of one row of the product are done -/
def TRel (w wq : World) (b : Nat) (Z ys : List Int) (x : Int) (i m k : Nat) (c : Int) : Prop :=
  Below w.heap.size w wq ∧ 0 ≤ c ∧ c ≤ 999999999 ∧ ((k ≤ m ∧ ∃ zs, Part (Num.part Z i (m + 1)) ys x k zs c ∧ Row wq b (put Z i zs)) ∨ (k = m + 1 ∧ c = 0 ∧ ∃ ws, Filled (Num.part Z i (m + 1)) ys x ws ∧ Row wq b (put Z i ws)))

theorem TRel.start {w wq : World} {b : Nat} {Z ys : List Int} {x : Int} {i m : Nat} (hB : Below w.heap.size w wq) (hr : Row wq b Z) : TRel w wq b Z ys x i m 0 0 :=
  ⟨hB, by omega, by omega, .inl ⟨by omega, [], Part.start _ _ _, by rw [Num.put_nil]; exact hr⟩⟩

theorem TRel.row {w wq : World} {b : Nat} {Z ys : List Int} {x : Int} {i m k : Nat} {c : Int} (h : TRel w wq b Z ys x i m k c) (hk : k ≤ m) (hZ : i + (m + 1) ≤ Z.length) : wq.cell? ⟨b, i + k, none⟩ = some (.int .i64 (Z.getD (i + k) 0)) ∧ wq.frozen? ⟨b, i + k, none⟩ = false := by
  obtain ⟨hB, c0, c1, hh⟩ := h
  rcases hh with ⟨_, zs, hp, hr⟩ | ⟨h1, _⟩
  · have hl := hp.len
    refine ⟨?_, hr.frozen _⟩
    rw [hr.cell (by rw [Num.put_length (by omega)]; omega), Num.put_getD_behind (by omega) (by omega)]
  · omega

theorem TRel.drewN {w wq : World} {b : Nat} {Z ys : List Int} {x : Int} {i m k : Nat} {c : Int} (h : TRel w wq b Z ys x i m k c) (q : Nat) : TRel w (wq.drewN q) b Z ys x i m k c :=
  ⟨below_drewN h.1 q, h.2.1, h.2.2.1, h.2.2.2⟩
theorem TRel.zero {w wq : World} {b : Nat} {Z ys : List Int} {x : Int} {i m k : Nat} {c : Int} (h : TRel w wq b Z ys x i m k c) (hc : 0 < c) : k ≤ m := by
  obtain ⟨_, _, _, hh⟩ := h
  rcases hh with ⟨h1, _⟩ | ⟨_, h1, _⟩ <;> omega

end Go.Proofs.YtahnkmkmoalbhaaGreatDoor

/- The reference implementation of layer 1: read: the walk. -/
namespace Go.Proofs.YtahnkmkmoalbhaaGreatDoor
open Go.RowKit

/-- a struct number lies in block b -/
def NumAt (w : World) (b : Nat) (ng : Bool) (v : Value) : Prop := w.heap[b]? = some (.cells #[.bool ng, v] 138 (0, 0))
theorem NumAt.cells {w : World} {b : Nat} {ng : Bool} {v : Value} (h : NumAt w b ng v) : w.cell? ⟨b, 0, none⟩ = some (.bool ng) ∧ w.cell? ⟨b, 1, none⟩ = some v ∧ w.frozen? ⟨b, 0, none⟩ = false ∧ w.frozen? ⟨b, 1, none⟩ = false := by
  unfold NumAt at h
  exact ⟨by rw [cell_of_row w b 0 _ _ _ h]; rfl, by rw [cell_of_row w b 1 _ _ _ h]; rfl, frozen_of_row w b 0 _ _ h, frozen_of_row w b 1 _ _ h⟩
theorem NumAt.below {B : Nat} {w w' : World} {b : Nat} {ng : Bool} {v : Value} (h : NumAt w b ng v) (hb : Below B w w') (hlt : b < B) : NumAt w' b ng v := by
  unfold NumAt at *; rw [hb.block b hlt]; exact h
theorem NumAt.set {w : World} {b : Nat} {ng : Bool} {v : Value} (h : NumAt w b ng v) (u : Value) : NumAt (w.setCell ⟨b, 1, none⟩ u) b ng u := by
  have := heap_setCell_same w b 1 _ _ u h
  unfold NumAt; rw [this]; rfl
theorem NumAt.set0 {w : World} {b : Nat} {ng : Bool} {v : Value} (h : NumAt w b ng v) (u : Bool) : NumAt (w.setCell ⟨b, 0, none⟩ (.bool u)) b u v := by
  have := heap_setCell_same w b 0 _ _ (.bool u) h
  unfold NumAt; rw [this]; rfl
theorem NumAt.setOther {w : World} {b : Nat} {ng : Bool} {v : Value} (h : NumAt w b ng v) {a : Addr} (hne : b ≠ a.block) (u : Value) : NumAt (w.setCell a u) b ng v := by
  unfold NumAt at *; rw [Below.heap_setCell w a u b hne]; exact h
theorem Own.setOther {w : World} {base : Nat} {v : Value} {l : List Int} (h : Own w base v l) {b i : Nat} (hb : b < base) (u : Value) : Own (w.setCell ⟨b, i, none⟩ u) base v l := by
  refine World.ownsRow.kept h (grown_set (grown_refl w (some b))) ?_
  cases hv : v.ownBlock with
  | none => exact .inl rfl
  | some k => exact .inr (by have := (World.ownsRow.lt h k hv).1; intro e; injection e with e; omega)

/-- i groups are read -/
structure ReadRel (w : World) (ng : Bool) (G : List Int) (i : Nat) (v : Value) (wr : World) : Prop where
  res : NumAt wr w.heap.size false (.slice none 0 0)
  out : NumAt wr (w.heap.size + 1) ng v
  own : Own wr (w.heap.size + 2) v (G.take i)
  below : Below w.heap.size w wr
  size : w.heap.size + 2 ≤ wr.heap.size

theorem ReadRel.start (w : World) (ng : Bool) (G : List Int) : ReadRel w ng G 0 (.slice none 0 0) ((w.alloc (.cells #[.bool false, .slice none 0 0] 138)).alloc (.cells #[.bool ng, .slice none 0 0] 138)) := by
  have h1 : NumAt (w.alloc (.cells #[.bool false, .slice none 0 0] 138)) w.heap.size false (.slice none 0 0) := heap_alloc_new w _
  have h2 : NumAt ((w.alloc (.cells #[.bool false, .slice none 0 0] 138)).alloc (.cells #[.bool ng, .slice none 0 0] 138)) (w.heap.size + 1) ng (.slice none 0 0) := by
    have := heap_alloc_new (w.alloc (.cells #[.bool false, .slice none 0 0] 138)) (.cells #[.bool ng, .slice none 0 0] 138)
    simpa [NumAt] using this
  refine ⟨?_, h2, Own.nil _ _, ((Below.refl _ _).alloc (Nat.le_refl _) _).alloc (by simp) _, by simp⟩
  exact h1.below ((Below.refl _ _).alloc (Nat.le_refl _) _) (by simp)

theorem ReadRel.step {w wr W1 : World} {ng : Bool} {G : List Int} {i : Nat} {v v1 : Value} {x : Int} (h : ReadRel w ng G i v wr) (hi : i < G.length) (hx : x = G.getD i 0)
    (hO : Own W1 (w.heap.size + 2) v1 (G.take i ++ [x])) (hB : Below (w.heap.size + 2) wr W1) : ReadRel w ng G (i + 1) v1 (W1.setCell ⟨w.heap.size + 1, 1, none⟩ v1) := by
  have h1 := h.res.below hB (by omega)
  have h2 := h.out.below hB (by omega)
  refine ⟨h1.setOther (a := ⟨w.heap.size + 1, 1, none⟩) (by simp) _, h2.set _, ?_, ?_, ?_⟩
  · rw [take_succ_getD hi, ← hx]
    exact hO.setOther (by omega) _
  · exact (h.below.trans (hB.mono (by omega))).setCell (p := ⟨w.heap.size + 1, 1, none⟩) (by simp) _
  · have := hB.size; simp [World.setCell]; have := h.size; omega

/-- what read leaves -/
def RReadPost (w : World) (s : ByteArray) (e : Ending) (w' : World) : Prop :=
  ∃ xa cap, e = .returned (.agg #[.bool (Num.sneg s.data.toList), .slice xa (gS s).length cap]) ∧ Rd w' xa cap (gS s) ∧ Below w.heap.size w w'

set_option maxRecDepth 100000 in
set_option maxHeartbeats 2000000 in
theorem rRead_any (s : ByteArray) (w : World) (hs : s.size ≤ 1000) :
    Calls Tryz.prog 117 #[.string s] w (RReadPost w s) := by
  have hm := lim_max (show s.size ≤ 4294967296 by omega)
  obtain ⟨D, hD, hDl, hall, hDs⟩ := dig_str s
  obtain ⟨ng, hng⟩ : ∃ ng, Num.sneg s.data.toList = ng := ⟨_, rfl⟩
  have hG : gS s = Num.grps D.data.toList := by unfold gS; rw [hDl]
  obtain ⟨G, hGG⟩ : ∃ G, G = gS s := ⟨_, rfl⟩
  obtain ⟨K, hK⟩ : ∃ K, K = (D.size + 8) / 9 := ⟨_, rfl⟩
  have hGl : G.length = K := by rw [hGG, hG, Num.grps_length, size_toList, hK]
  have hKb : K ≤ 1000 ∧ K * 9 ≤ D.size + 8 ∧ D.size ≤ K * 9 := by omega
  have hDb : D.size ≤ 1000 := by omega
  have HD := Lib.hid hD
  have HNG := Lib.hid hng
  have HG := Lib.hid hG
  have HGG := Lib.hid hGG
  have HGL := Lib.hid hGl
  have HA := Lib.hid hall
  have HK := Lib.hid hK
  have HST := Lib.hid (ReadRel.start w ng G)
  clear hD hng hDl hall hG hGG hGl hK
  go_enter Tryz.func117, Tryz.ntmps117
  go_wp2_with fail
  refine (digits_any s _ hm).mono ?_
  rintro e w' ⟨rfl, rfl⟩
  rw [← HD.out, HNG.out]
  go_wp2_with fail
  go_loopw [6] (fun tv wr => ∃ (i : Nat) (t : Int) (v : Value), i ≤ K ∧ tv = .int .i64 t ∧ t = (D.size : Int) - 9 * i ∧ ReadRel w ng G i v wr) (fun tv _ => (intOf tv).toNat)
  case atStart => exact ⟨0, _, _, by omega, rfl, by omega, HST.out⟩
  case round =>
    clear HST
    obtain ⟨i, t, v, hi, rfl, ht, hr⟩ := hrel
    have hz := hr.size
    have hc := hr.out.cells
    have hcv := hc.2.1
    have hfv := hc.2.2.2
    have hc2 := hr.res.cells
    have hcr0 := hc2.1
    have hcr1 := hc2.2.1
    have hfr0 := hc2.2.2.1
    have hfr1 := hc2.2.2.2
    have hcn := hc.1
    have HR := Lib.hid hr
    clear hr hc hc2
    by_cases hlt : i < K
    · have ht0 : 0 < t := by omega
      obtain ⟨st, hst⟩ : ∃ st, st = D.size - 9 * (i + 1) := ⟨_, rfl⟩
      have hse : (st : Int) = max 0 (t - 9) := by omega
      have hse1 : (st : Int) ≤ t ∧ t ≤ st + 9 ∧ t ≤ D.size := by omega
      have HE := Lib.hid hse
      have HSTT := Lib.hid hst
      have HT := Lib.hid ht
      clear hse hst ht
      go_wp2_with fail
      go_loop [7, 8] (fun nv jv => ∃ j : Nat, st ≤ j ∧ (j : Int) ≤ t ∧ jv = .int .i64 j ∧ nv = .int .i64 (Num.num (span D.data.toList st j) : Nat)) (fun _ jv => (t - intOf jv).toNat)
      case atStart => exact ⟨st, Nat.le_refl _, hse1.1, by rw [HE.out], by rw [span_nil]; rfl⟩
      case round =>
        obtain ⟨j, hj0, hj1, rfl, rfl⟩ := hrel
        obtain ⟨x, hxx⟩ : ∃ x, x = Num.num (span D.data.toList st j) := ⟨_, rfl⟩
        rw [← hxx]
        by_cases hj : (j : Int) < t
        · have hjD : j < D.size := by omega
          have hjD' : j < D.data.toList.length := by rw [size_toList]; exact hjD
          have hdig := dig_at hjD HA.out
          have hspan := span_succ (d := D.data.toList) hj0 hjD'
          have hby := byte_at D j hjD hjD'
          have hxb : x < 100000000 := by rw [hxx]; exact span_small HA.out (by omega)
          have hnext : ((Num.num (span D.data.toList st (j + 1)) : Nat) : Int) = 10 * (x : Int) + (((D[j]'hjD).toNat : Int) - 48) := by
            rw [hspan, Num.num_snoc, hby, hxx]; unfold Num.dv; omega
          have hd1 : (48 : Int) ≤ ((D[j]'hjD).toNat : Int) := by omega
          have hd2 : ((D[j]'hjD).toNat : Int) ≤ 57 := by omega
          have HN := Lib.hid hnext
          clear hdig hspan hby hnext hjD' hxx
          go_wp2_with fail
          go_round
          case rel => exact ⟨j + 1, by omega, by omega, by go_num, by rw [HN.out]⟩
          case measure => simp [intOf]; omega
        · have he : (j : Int) = t := by omega
          have hxG : (x : Int) = G.getD i 0 := by
            rw [hxx, HGG.out, HG.out]
            have h2 : Num.grps D.data.toList = (List.range K).map fun i => (Num.num (Num.seg D.data.toList i) : Int) := by
              unfold Num.grps; rw [size_toList, HK.out]
            rw [h2]
            simp only [List.getD_eq_getElem?_getD]
            rw [List.getElem?_map, List.getElem?_range hlt]
            simp only [Option.map_some, Option.getD_some]
            unfold Num.seg span
            rw [size_toList, HSTT.out, show j = D.size - 9 * i by have := HT.out; omega]
          obtain ⟨X, hX⟩ : ∃ X : Int, X = (x : Int) := ⟨_, rfl⟩
          rw [← hX] at hxG ⊢
          have hO := HR.out.own.alloc (.cells #[.int .i64 X] 3)
          have hB := (Below.refl wr.heap.size wr).alloc (Nat.le_refl _) (.cells #[.int .i64 X] 3)
          have hBq : w.heap.size + 2 ≤ (wr.alloc (.cells #[.int .i64 X] 3)).heap.size := Nat.le_trans hz hB.size
          have HO := Lib.hid hO
          have HB := Lib.hid (hB.mono hz)
          have HBQ := Lib.hid hBq
          have HXG := Lib.hid hxG
          have hlen : (G.take i).length + 1 ≤ 10000000 := by have := List.length_take_le i G; omega
          have HLEN := Lib.hid hlen
          clear hO hB hBq hxG hX hxx he hlen
          have hlen2 : (G.take i ++ [X]).length = i + 1 := by rw [List.length_append, List.length_take]; have := HGL.out; simp; omega
          have hlen3 : (G.take i ++ [X]).length ≤ 1000000 := by omega
          have HLEN2 := Lib.hid hlen2
          have HLEN3 := Lib.hid hlen3
          clear hlen2 hlen3
          go_wp2_with (at_builtin; refine wp_addInt rfl _ _ rfl (w.heap.size + 2) _ _ rfl HO.out X wr.heap.size (by simp) rfl HLEN.out HBQ.out ?_; intro v1 W1 hO1 hB1; obtain ⟨va, vc, hv1, _⟩ := hO1.rd HLEN3.out; rw [HLEN2.out] at hv1; subst hv1; have HO1 := Lib.hid hO1; have HB1 := Lib.hid (HB.out.trans hB1); obtain ⟨hca, hcb, hcc, hcd⟩ := (HR.out.out.below HB1.out (Nat.lt_succ_self _)).cells; clear hO1 hB1)
          have hst2 := HR.out.step (by have := HGL.out; omega) HXG.out HO1.out HB1.out
          have HS2 := Lib.hid hst2
          clear hst2
          go_roundw
          case rel => exact ⟨i + 1, t - 9, _, by omega, rfl, by have := HT.out; omega, HS2.out⟩
          case measure => simp [intOf]; omega
    · have ht0 : ¬ 0 < t := by omega
      have hi2 : i = K := by omega
      obtain ⟨va, vc, hv, hrd⟩ := HR.out.own.rd (by have := List.length_take_le i G; omega)
      have hGi : G.take i = gS s := by rw [← HGG.out, List.take_of_length_le (by have := HGL.out; omega)]
      rw [hGi] at hv hrd
      subst hv
      have hrd2 := hrd
      have hBl := HR.out.below
      have HRD := Lib.hid hrd
      have HBL := Lib.hid hBl
      have HGi := Lib.hid hGi
      clear hGi hi2 hrd hBl hrd2 ht
      go_wp2_with fail
      have hN0 := (HR.out.res.set0 ng).set (.slice va (gS s).length vc)
      have hBf := (HBL.out.setCell (p := ⟨w.heap.size, 0, none⟩) (Nat.le_refl _) (.bool ng)).setCell (p := ⟨w.heap.size, 1, none⟩) (Nat.le_refl _) (.slice va (gS s).length vc)
      obtain ⟨va', vc', hv', hrd'⟩ := ((HR.out.own.setOther (b := w.heap.size) (i := 0) (by omega) (.bool ng)).setOther (b := w.heap.size) (i := 1) (by omega) (.slice va (gS s).length vc)).rd (by have := List.length_take_le i G; omega)
      rw [HGi.out] at hv' hrd'
      injection hv' with e1 e2 e3
      subst e1
      subst e3
      obtain ⟨Wf, hWf⟩ : ∃ Wf, Wf = (wr.setCell ⟨w.heap.size, 0, none⟩ (.bool ng)).setCell ⟨w.heap.size, 1, none⟩ (.slice va (gS s).length vc) := ⟨_, rfl⟩
      rw [← hWf] at hN0 hBf hrd' ⊢
      obtain ⟨k0, k1, _, _⟩ := hN0.cells
      exact bodyPost_ret (v := .agg #[.bool ng, .slice va (gS s).length vc]) (by simp [results, Tryz.results117, go_sem, k0, k1]) rfl ⟨va, vc, by rw [HNG.out], hrd', hBf⟩

end Go.Proofs.YtahnkmkmoalbhaaGreatDoor

/- The reference implementation of layer 1: write: the walk. -/
namespace Go.Proofs.YtahnkmkmoalbhaaGreatDoor
open Go.RowKit

theorem num_strip (l : List UInt8) : Num.num (Num.strip l) = Num.num l := by
  unfold Num.strip
  induction l with
  | nil => rfl
  | cons c l ih =>
    rw [List.dropWhile_cons]
    split
    · rename_i h
      have : c = 48 := by simpa using h
      subst this
      rw [ih, Num.num_cons]
      simp [Num.dv]
    · rfl
theorem val_digits {l : List UInt8} (h : l.all Num.isDig = true) : Num.val l = (Num.num l : Int) := by
  have h1 : Num.sdig l = Num.strip l := by unfold Num.sdig; rw [Num.cut_of_plain h]; simp only [h]; rfl
  have h2 : Num.sneg l = false := by unfold Num.sneg; rw [Num.cut_of_plain h]; rfl
  unfold Num.val Num.mag
  rw [h2, h1, num_strip]; rfl
theorem val_minus {l : List UInt8} (h : l.all Num.isDig = true) : Num.val (45 :: l) = -(Num.num l : Int) := by
  have h1 : Num.sdig (45 :: l) = Num.strip l := by unfold Num.sdig; rw [Num.cut_minus]; simp only [h]; rfl
  have h2 : Num.sneg (45 :: l) = !(Num.strip l).isEmpty := by unfold Num.sneg; rw [Num.cut_minus, h1]; rfl
  unfold Num.val Num.mag
  rw [h2, h1, ← num_strip l]
  cases hs : (Num.strip l).isEmpty
  · simp
  · have : Num.strip l = [] := by simpa using hs
    rw [this]; rfl

/-- i groups and k digits of the next one, x, are written -/
structure WRel (zs : List Int) (i k x : Nat) (T : List UInt8) : Prop where
  all : T.all Num.isDig = true
  len : T.length = 9 * i + k
  num : (Num.num T : Int) = Num.gval (zs.take i) + Num.B ^ i * ((x % 10 ^ k : Nat) : Int)

theorem Bpow_eq (i : Nat) : Num.B ^ i = ((10 ^ (9 * i) : Nat) : Int) := by
  rw [Nat.pow_mul]; unfold Num.B; rw [Int.natCast_pow]; rfl
theorem WRel.start (zs : List Int) : WRel zs 0 0 0 [] := ⟨rfl, rfl, by simp [Num.gval, Num.num]⟩
theorem WRel.at {zs : List Int} {i x : Nat} {T : List UInt8} (h : WRel zs i 0 0 T) : WRel zs i 0 x T := ⟨h.all, h.len, by rw [h.num]; simp [Nat.mod_one]⟩
theorem WRel.step {zs : List Int} {i k x : Nat} {T : List UInt8} (h : WRel zs i k x T) : WRel zs i (k + 1) x (UInt8.ofNat (48 + x / 10 ^ k % 10) :: T) := by
  have hd : x / 10 ^ k % 10 < 10 := Nat.mod_lt _ (by decide)
  refine ⟨?_, by simp [h.len]; omega, ?_⟩
  · rw [List.all_cons, Num.isDig_ofNat _ hd, h.all]; rfl
  · rw [Num.num_cons, Num.dv_ofNat _ hd, h.len, Nat.mod_pow_succ]
    have := h.num
    rw [Bpow_eq] at this ⊢
    rw [Nat.pow_add]
    simp only [Int.natCast_add, Int.natCast_mul] at this ⊢
    rw [this, Int.mul_add]
    have e : ((x / 10 ^ k % 10 : Nat) : Int) * (((10 ^ (9 * i) : Nat) : Int) * ((10 ^ k : Nat) : Int)) = ((10 ^ (9 * i) : Nat) : Int) * (((10 ^ k : Nat) : Int) * ((x / 10 ^ k % 10 : Nat) : Int)) := by
      rw [Int.mul_comm, Int.mul_assoc]
    rw [e]; omega
theorem WRel.next {zs : List Int} {i x : Nat} {T : List UInt8} (h : WRel zs i 9 x T) (hx : (x : Int) = zs.getD i 0) (hb : x < 1000000000) : WRel zs (i + 1) 0 0 T := by
  refine ⟨h.all, by rw [h.len]; omega, ?_⟩
  rw [h.num, Num.gval_take_succ, ← hx, Nat.mod_eq_of_lt (show x < 10 ^ 9 by omega)]
  simp

set_option maxRecDepth 100000 in
set_option maxHeartbeats 2000000 in
theorem rWrite_any (ng : Bool) (w : World) (xa : Option Addr) (cap n : Nat) (zs : List Int) (hn : zs.length = n) (hx : Rd w xa cap zs) (cz : Num.Norm zs) (hlim : n ≤ 1000) :
    Calls Tryz.prog 115 #[.agg #[.bool ng, .slice xa n cap]] w (StrPost w (sg ng (Num.gval zs))) := by
  have HN := Lib.hid hn
  clear hn
  go_enter Tryz.func115, Tryz.ntmps115
  obtain ⟨W0, hW0⟩ : ∃ W0, W0 = w.alloc (.cells #[.bool ng, .slice xa n cap] 138) := ⟨_, rfl⟩
  have hN0 : NumAt W0 w.heap.size ng (.slice xa n cap) := by rw [hW0]; exact heap_alloc_new w _
  have hB0 : Below w.heap.size w W0 := by rw [hW0]; exact (Below.refl _ _).alloc (Nat.le_refl _) _
  have hx0 := hx.below hB0
  obtain ⟨hc0, hc1, _, _⟩ := hN0.cells
  go_wp2_with fail
  rw [← hW0]
  have HB0 := Lib.hid hB0
  clear hW0 hN0 hB0
  go_loop [3, 4] (fun tv iv => ∃ (i : Nat) (T : List UInt8), i ≤ n ∧ iv = .int .i64 i ∧ tv = .string ⟨T.toArray⟩ ∧ WRel zs i 0 0 T) (fun _ iv => n - (intOf iv).toNat)
  case atStart => exact ⟨0, [], Nat.zero_le _, rfl, rfl, WRel.start zs⟩
  case round =>
    obtain ⟨i, T, hi, rfl, rfl, hr⟩ := hrel
    have HR := Lib.hid hr
    clear hr
    by_cases hlt : i < n
    · obtain ⟨x, hxx⟩ : ∃ x : Nat, (x : Int) = zs.getD i 0 := ⟨(zs.getD i 0).toNat, by have := (cz.getD i).1; omega⟩
      have hxb : x < 1000000000 := by have := (cz.getD i).2; unfold Num.B at this; omega
      obtain ⟨X, hX⟩ : ∃ X : Int, X = (x : Int) := ⟨_, rfl⟩
      obtain ⟨b, o, rfl, hsr⟩ := hx0.sl (by have := HN.out; omega)
      have hcell : W0.cell? ⟨b, o + i, none⟩ = some (.int .i64 X) := by
        rw [hX, hxx]; exact hsr.cell i (by have := HN.out; omega)
      have hcapb : n ≤ cap := by have := hsr.le; have := HN.out; omega
      have hcapm := hsr.max
      have HXX := Lib.hid hxx
      have HXB := Lib.hid hxb
      have HX := Lib.hid hX
      clear hxx hxb hX
      go_wp2_with fail
      go_loop [3, 5, 6] (fun tv nv kv => ∃ (k : Nat) (y : Int) (T : List UInt8), k ≤ 9 ∧ kv = .int .i64 k ∧ nv = .int .i64 y ∧ 0 ≤ y ∧ y ≤ 999999999 ∧ y.toNat = x / 10 ^ k ∧ tv = .string ⟨T.toArray⟩ ∧ WRel zs i k x T) (fun _ _ kv => 9 - (intOf kv).toNat)
      case atStart => exact ⟨0, X, T, by omega, rfl, rfl, by have := HX.out; omega, by have := HX.out; have := HXB.out; omega, by have := HX.out; simp; omega, rfl, HR.out.at⟩
      case round =>
        clear HR
        obtain ⟨k, y, T, hk, rfl, rfl, hy0, hy1, hyx, rfl, hr⟩ := hrel
        by_cases hk9 : k < 9
        · have hs := hr.step
          obtain ⟨d, hd⟩ : ∃ d, d = x / 10 ^ k % 10 := ⟨_, rfl⟩
          rw [← hd] at hs
          rw [← hyx] at hd
          have hE := enc_digit d (by omega)
          obtain ⟨c, hc⟩ : ∃ c, c = UInt8.ofNat (48 + d) := ⟨_, rfl⟩
          rw [← hc] at hs hE
          obtain ⟨z, hzz⟩ : ∃ z : Int, z = (d : Int) := ⟨_, rfl⟩
          rw [← hzz] at hE
          have hmod : y % 10 = z := by omega
          have hz0 : 0 ≤ z := by omega
          have hz9 : z ≤ 9 := by omega
          have hdiv : (y / 10).toNat = x / 10 ^ (k + 1) := by rw [Nat.pow_succ, ← Nat.div_div_eq_div_mul, ← hyx]; omega
          have htl : T.length ≤ 10000 := by have := hr.len; omega
          have HS := Lib.hid hs
          have HD := Lib.hid hdiv
          clear hs hd hc hzz hdiv hyx hr
          go_wp2_with fail
          go_round
          case rel => exact ⟨k + 1, y / 10, _, by omega, by go_num, rfl, by omega, by omega, HD.out, by rw [← one_append]; rfl, HS.out⟩
          case measure => simp [intOf]; omega
        · obtain rfl : k = 9 := by omega
          have hs := hr.next HXX.out HXB.out
          have HS := Lib.hid hs
          clear hs hyx hr
          go_wp2_with fail
          go_round
          case rel => exact ⟨i + 1, _, by omega, by go_num, rfl, HS.out⟩
          case measure => simp [intOf]; omega
    · obtain rfl : i = n := by omega
      have hnum : (Num.num T : Int) = Num.gval zs := by
        have := HR.out.num
        rw [List.take_of_length_le (by have := HN.out; omega)] at this
        rw [this]; simp
      have hall := HR.out.all
      have htl : T.length ≤ 10000 := by have := HR.out.len; omega
      have HT := Lib.hid hnum
      have HALL := Lib.hid hall
      clear hnum hall
      cases ng
      · have hv : vS ⟨T.toArray⟩ = sg false (Num.gval zs) := by unfold vS; show Num.val T = _; rw [val_digits HALL.out, HT.out]; rfl
        have HV := Lib.hid hv
        have hsz : (ByteArray.mk T.toArray).size ≤ 4294967296 := by show T.toArray.size ≤ _; simp; omega
        clear hv
        go_wp2_with fail
        refine (rCanonical_any _ _ hsz).mono ?_
        rintro e _ ⟨rfl, rfl⟩
        go_wp2_with fail
        go_ret
        exact ⟨by rw [HV.out]; rfl, HB0.out⟩
      · have hv : vS (ByteArray.mk #[45] ++ ⟨T.toArray⟩) = sg true (Num.gval zs) := by rw [minus_append]; unfold vS; show Num.val (45 :: T) = _; rw [val_minus HALL.out, HT.out]; rfl
        have HV := Lib.hid hv
        have hsz : (ByteArray.mk #[45] ++ ⟨T.toArray⟩).size ≤ 4294967296 := by rw [minus_append]; show (45 :: T).toArray.size ≤ _; simp; omega
        have HSZ := Lib.hid hsz
        clear hv hsz
        go_wp2_with fail
        refine (rCanonical_any _ _ HSZ.out).mono ?_
        rintro e _ ⟨rfl, rfl⟩
        go_wp2_with fail
        go_ret
        exact ⟨by rw [HV.out]; rfl, HB0.out⟩

end Go.Proofs.YtahnkmkmoalbhaaGreatDoor

/- The reference implementation of layer 1: Mul: the walk. -/
namespace Go.Proofs.YtahnkmkmoalbhaaGreatDoor
open Go.RowKit

theorem NumAt.alloc {w : World} {b : Nat} {ng : Bool} {v : Value} (h : NumAt w b ng v) (o : Obj) : NumAt (w.alloc o) b ng v := by
  have hlt : b < w.heap.size := by
    rcases Nat.lt_or_ge b w.heap.size with h' | h'
    · exact h'
    · unfold NumAt at h; rw [Array.getElem?_eq_none h'] at h; simp at h
  exact h.below ((Below.refl w.heap.size w).alloc (Nat.le_refl _) o) hlt
theorem NumAt.lt {w : World} {b : Nat} {ng : Bool} {v : Value} (h : NumAt w b ng v) : b < w.heap.size := by
  rcases Nat.lt_or_ge b w.heap.size with h' | h'
  · exact h'
  · unfold NumAt at h; rw [Array.getElem?_eq_none h'] at h; simp at h

theorem gS_length2 (s : ByteArray) (hs : s.size ≤ 1000) : (gS s).length ≤ 120 := by
  unfold gS; rw [Num.grps_length]
  have := Num.sdig_length s.data.toList
  rw [size_toList] at this; omega
theorem shortV_ways (a : ByteArray) : shortV a = .tuple #[.int .i64 (vS a), .bool true] ∨ shortV a = .tuple #[.int .i64 0, .bool false] := by
  unfold shortV; split
  · exact .inl rfl
  · exact .inr rfl

end Go.Proofs.YtahnkmkmoalbhaaGreatDoor
