/- integer.trim, compareGroups: walks. -/
import Derived.Test.YtahnkmkmoalbhaaGreatDoorZAA
import Derived.BigQuiet
import Derived.BigRegion
import Derived.Deep.QuietTactic
import Derived.Laws.CopyOwn
import Derived.RegionTactic
namespace Go.Proofs.YtahnkmkmoalbhaaGreatDoor
open Go.RowKit

/-- a callee that only computes, called behind draws -/
theorem still_call {P : Program} {f : FuncId} {args : Array Value} {w : World} {a n : Nat} {v : Value} (h : Calls P f args (w.drewN (a + n)) fun e w' => e = .returned v ∧ w' = w.drewN (a + n)) :
    Calls P f args (w.drewN (a + n)) fun e w' => e = .returned v ∧ ∃ m, w' = w.drewN (a + m) :=
  h.mono fun _ _ hh => ⟨hh.1, n, hh.2⟩

theorem take_succ_getD {zs : List Int} {j : Nat} (h : j < zs.length) : zs.take (j + 1) = zs.take j ++ [zs.getD j 0] := by
  rw [List.take_succ_eq_append_getElem h]; simp [List.getD, h]

/-- the measure of trim's loop -/
def lenOf : Value → Nat | .slice _ k _ => k | _ => 0

set_option maxHeartbeats 1000000 in
theorem trim_any (w : World) (b o cap n : Nat) (zs : List Int) (hn : zs.length = n) (hz : Sl w b o cap zs) :
    Calls Tryz.prog 100 #[.slice (some ⟨b, o, none⟩) n cap] w
      fun e w' => e = .returned (.slice (some ⟨b, o, none⟩) (Num.trimmed zs).length cap) ∧ w = w' := by
  have hnc : n ≤ cap := by have := hz.le; omega
  have hmx := hz.max
  have HN := Lib.hid hn
  clear hn
  go_enter Tryz.func100, Tryz.ntmps100
  go_wp2
  go_loop [0] (fun v => ∃ k : Nat, k ≤ n ∧ v = .slice (some ⟨b, o, none⟩) k cap ∧ Num.trimmed (zs.take k) = Num.trimmed zs) (fun v => lenOf v)
  case atStart => exact ⟨n, Nat.le_refl _, rfl, by rw [List.take_of_length_le (by have := HN.out; omega)]⟩
  case round =>
    obtain ⟨k, hk, rfl, ht⟩ := hrel
    have HT := Lib.hid ht
    clear ht
    by_cases h0 : 0 < k
    · obtain ⟨j, rfl⟩ : ∃ j, k = j + 1 := ⟨k - 1, by omega⟩
      obtain ⟨x, hx⟩ : ∃ x, x = zs.getD j 0 := ⟨_, rfl⟩
      have hc : w.cell? ⟨b, o + j, none⟩ = some (.int .i64 x) := by rw [hx]; exact hz.cell j (by have := HN.out; omega)
      have HX := Lib.hid hx
      clear hx
      by_cases hx0 : x = 0
      · have hb : (x == 0) = true := by simpa using hx0
        have ht : Num.trimmed (zs.take j) = Num.trimmed zs := by
          rw [← HT.out, take_succ_getD (by have := HN.out; omega), ← HX.out, hx0, Num.trimmed_snoc_zero]
        have H := Lib.hid ht
        clear ht hx0
        go_wp2
        go_round
        case rel => exact ⟨j, by omega, rfl, H.out⟩
        case measure => simp [lenOf]
      · have hb : (x == 0) = false := by simpa using hx0
        have ht : (Num.trimmed zs).length = j + 1 := by
          rw [← HT.out, take_succ_getD (by have := HN.out; omega), ← HX.out, Num.trimmed_snoc _ hx0]
          simp; have := HN.out; omega
        have H := Lib.hid ht
        clear ht hx0
        go_wp2
        go_ret
        exact ⟨by rw [H.out]; rfl, rfl⟩
    · obtain rfl : k = 0 := by omega
      have ht : (Num.trimmed zs).length = 0 := by rw [← HT.out]; rfl
      have H := Lib.hid ht
      clear ht
      go_wp2
      go_ret
      exact ⟨by rw [H.out]; rfl, rfl⟩

set_option maxHeartbeats 1000000 in
theorem compareGroups_any (w : World) (b o cap ob oy capy n m : Nat) (xs ys : List Int) (hn : xs.length = n) (hm : ys.length = m) (hx : Sl w b o cap xs) (hy : Sl w ob oy capy ys) (cx : Num.Can xs) (cy : Num.Can ys) :
    Calls Tryz.prog 70 #[.slice (some ⟨b, o, none⟩) n cap, .slice (some ⟨ob, oy, none⟩) m capy] w
      fun e w' => e = .returned (.int .i64 (cmp3 (Num.gval xs) (Num.gval ys))) ∧ ∃ k, w' = w.drewN k := by
  have hnb : n ≤ 1099511627776 := by have := hx.le; have := hx.max; omega
  have hmb : m ≤ 1099511627776 := by have := hy.le; have := hy.max; omega
  have HN := Lib.hid hn
  have HM := Lib.hid hm
  clear hn hm
  by_cases hnm : n = m
  · subst hnm
    have hb : ((n : Int) == n) = true := by simp
    go_enter Tryz.func70, Tryz.ntmps70
    go_wp2
    go_loopw [5] (fun i wr => ∃ z : Int, -1 ≤ z ∧ z < n ∧ i = .int .i64 z ∧ xs.drop (z + 1).toNat = ys.drop (z + 1).toNat ∧ ∃ q, wr = w.drewN q) (fun i _ => (intOf i + 1).toNat)
    case atStart => exact ⟨n - 1, by omega, by omega, rfl, by rw [List.drop_of_length_le (by have := HN.out; omega), List.drop_of_length_le (by have := HM.out; omega)], 0, rfl⟩
    case round =>
      obtain ⟨z, hz0, hz1, rfl, he, q, rfl⟩ := hrel
      have HE := Lib.hid he
      clear he
      by_cases hneg : z < 0
      · have hr : cmp3 (Num.gval xs) (Num.gval ys) = 0 := by
          have := HE.out
          rw [show (z + 1).toNat = 0 by omega] at this
          simp at this
          rw [this]; exact cmp3_eq rfl
        have H := Lib.hid hr
        clear hr
        go_wp2
        go_ret
        exact ⟨by rw [H.out]; rfl, q, rfl⟩
      · obtain ⟨j, rfl⟩ := Int.eq_ofNat_of_zero_le (show 0 ≤ z by omega)
        obtain ⟨x, hxx⟩ : ∃ x, x = xs.getD j 0 := ⟨_, rfl⟩
        obtain ⟨y, hyy⟩ : ∃ y, y = ys.getD j 0 := ⟨_, rfl⟩
        have hcx : w.cell? ⟨b, o + j, none⟩ = some (.int .i64 x) := by rw [hxx]; exact hx.cell j (by have := HN.out; omega)
        have hcy : w.cell? ⟨ob, oy + j, none⟩ = some (.int .i64 y) := by rw [hyy]; exact hy.cell j (by have := HM.out; omega)
        have HX := Lib.hid hxx
        have HY := Lib.hid hyy
        clear hxx hyy
        by_cases hxy : x = y
        · have hb2 : (x == y) = true := by simpa using hxy
          have hd : xs.drop j = ys.drop j := by
            have h1 := HN.out; have h2 := HM.out
            have h3 := HE.out
            rw [show ((j : Int) + 1).toNat = j + 1 by omega] at h3
            rw [List.drop_eq_getElem_cons (show j < xs.length by omega), List.drop_eq_getElem_cons (show j < ys.length by omega), h3]
            congr 1
            have e1 := HX.out; have e2 := HY.out
            simp [List.getD, show j < xs.length by omega] at e1
            simp [List.getD, show j < ys.length by omega] at e2
            rw [← e1, ← e2, hxy]
          have H := Lib.hid hd
          clear hd hxy
          go_wp2
          go_quiet (fail)
          go_wp2
          go_roundw
          case rel => exact ⟨_, by omega, by omega, rfl, by rw [show ((j : Int) - 1 + 1).toNat = j by omega]; exact H.out, _, rfl⟩
          case measure => simp [intOf]
        · have hb2 : (x == y) = false := by simpa using hxy
          have hr : cmp3 (Num.gval xs) (Num.gval ys) = Lib.compareInt x y := by
            have h1 := HN.out; have h2 := HM.out
            have h3 := HE.out
            rw [show ((j : Int) + 1).toNat = j + 1 by omega] at h3
            have e1 := HX.out; have e2 := HY.out
            simp [List.getD, show j < xs.length by omega] at e1
            simp [List.getD, show j < ys.length by omega] at e2
            unfold Lib.compareInt
            by_cases hlt : x < y
            · rw [cmp3_lt (Num.gval_lt_at cx.1 cy.1 j (by omega) (by omega) h3 (by rw [← e1, ← e2]; exact hlt)), if_pos hlt]
            · rw [cmp3_gt (Num.gval_lt_at cy.1 cx.1 j (by omega) (by omega) h3.symm (by rw [← e1, ← e2]; omega)), if_neg hlt, if_pos (by omega)]
          have H := Lib.hid hr
          clear hr hxy
          go_wp2
          go_quiet (fail)
          go_wp2
          go_quiet ((go_at_call 101; exact still_call (Tryz.cmp_Compare_int _ _ _)))
          go_wp2
          go_ret
          exact ⟨by rw [H.out]; rfl, _, by rw [World.drewN_drewN, World.drewN_drewN]⟩
  · have hb : ((n : Int) == m) = false := by rw [beq_eq_false_iff_ne]; omega
    have hr : cmp3 (Num.gval xs) (Num.gval ys) = Lib.compareInt n m := by
      have h1 := HN.out
      have h2 := HM.out
      unfold Lib.compareInt
      by_cases hlt : n < m
      · rw [cmp3_lt (Num.gval_lt_of_length cx cy (by omega)), if_pos (by omega)]
      · rw [cmp3_gt (Num.gval_lt_of_length cy cx (by omega)), if_neg (by omega), if_pos (by omega)]
    have H := Lib.hid hr
    clear hr hnm
    go_enter Tryz.func70, Tryz.ntmps70
    go_wp2_with (first | (go_at_call 101; refine (Tryz.cmp_Compare_int _ _ _).mono ?_; rintro e w' ⟨rfl, rfl⟩))
    go_ret
    exact ⟨by rw [H.out]; rfl, 0, rfl⟩
end Go.Proofs.YtahnkmkmoalbhaaGreatDoor

/- integer.combine, multiply: walks. -/
namespace Go.Proofs.YtahnkmkmoalbhaaGreatDoor
open Go.RowKit
open Num (Part put Filled)

theorem below_of_grown {w0 w w' : World} {b : Nat} (h : Below w0.heap.size w0 w) (hg : w.grownBy w' (some b)) (hb : w0.heap.size ≤ b) : Below w0.heap.size w0 w' :=
  h.grown hg h.size (fun k e => by injection e with e; omega)

/-- the result of a function that makes a new row: the row's beginning -/
def NewRow (w : World) (zs : List Int) (e : Ending) (w' : World) : Prop :=
  ∃ b cap, e = .returned (.slice (some ⟨b, 0, none⟩) zs.length cap) ∧ Sl w' b 0 cap zs ∧ w.heap.size ≤ b ∧ Below w.heap.size w w'

theorem prefix_getD {xs ys : List Int} (h : xs <+: ys) {i : Nat} (hi : i < xs.length) : ys.getD i 0 = xs.getD i 0 := by
  obtain ⟨t, rfl⟩ := h
  simp only [List.getD_eq_getElem?_getD]
  rw [List.getElem?_append_left hi]
/-- a beginning of a row -/
theorem Row.prefix {w : World} {b : Nat} {zs ys : List Int} (h : Row w b zs) (hp : ys <+: zs) {cap : Nat} (hc : ys.length ≤ cap) (hm : cap ≤ 1099511627776) : Sl w b 0 cap ys :=
  h.part (fun i hi => by have := hp.length_le; rw [Nat.zero_add]; exact ⟨by omega, (prefix_getD hp hi).symm⟩) hc hm

theorem size_int : (Tryz.prog.info? 3).map (·.size) = some 1 := by kernel_rfl

/-- copy(sum, x) into a row of zeros that is not shorter -/
theorem run_copyInts (W : World) (g L : Nat) (xa : Option Addr) (cap n : Nat) (xs : List Int) (hn : xs.length = n) (hr : Row W g (List.replicate L 0))
    (hx : 0 < n → ∃ b o, xa = some ⟨b, o, none⟩ ∧ Sl W b o cap xs) (hnl : n ≤ L) :
    ∃ W1, (Builtin.copy_ #[85, 85] 3 #[.slice (some ⟨g, 0, none⟩) L L, .slice xa n cap]).run Tryz.prog W = .ok (.int .i64 n) W1 ∧ Row W1 g (xs ++ List.replicate (L - n) 0) ∧ W.grownBy W1 (some g) := by
  by_cases h0 : n = 0
  · subst h0
    obtain rfl : xs = [] := List.eq_nil_of_length_eq_zero hn
    exact ⟨W, run_copy_none W _ _ _ 3 _ _ _ _ _ _ Tryz.underlying85 size_int (by simp), by simpa using hr, grown_refl _ _⟩
  · obtain ⟨b, o, rfl, hsl⟩ := hx (by omega)
    have hrun := run_copy_row (P := Tryz.prog) W 85 85 3 3 g 0 L L ⟨b, o, none⟩ n cap _ _ (xs.map (Value.int .i64)) Tryz.underlying85 size_int hr (by rw [List.length_map, hn]; exact (Nat.min_eq_left hnl).symm)
      (fun j v hj => by
        rw [List.getElem?_map] at hj
        obtain ⟨x, hx1, rfl⟩ := Option.map_eq_some_iff.1 hj
        have hlt := (List.getElem?_eq_some_iff.1 hx1).1
        have := hsl.cell j hlt
        have e : (⟨b, o, none⟩ : Addr).add j = ⟨b, o + j, none⟩ := by unfold Addr.add; split <;> simp_all
        rw [e, this]
        simp [List.getD, hx1])
      (by simp; omega) (fun v hv => by obtain ⟨x, _, rfl⟩ := List.mem_map.1 hv; rfl)
    have e : goInt ((xs.map (Value.int .i64)).length : Nat) = .int .i64 n := by simp [goInt, hn]
    rw [e] at hrun
    refine ⟨_, hrun, ?_, ⟨rfl, rfl, rfl, by simp, fun k _ hne => setRow_other W g k _ (fun e => hne (by rw [e]))⟩⟩
    unfold Row
    rw [setRow_heap _ _ _ _ _ _ hr]
    simp [hn]

set_option maxRecDepth 100000 in
set_option maxHeartbeats 1000000 in
theorem combine_any (f : Int) (w : World) (xa : Option Addr) (cap ob oy capy n m : Nat) (xs ys zs : List Int) (hn : xs.length = n) (hm : ys.length = m) (hx : 0 < n → ∃ b o, xa = some ⟨b, o, none⟩ ∧ Sl w b o cap xs) (hy : Sl w ob oy capy ys) (cx : Num.Norm xs) (cy : Num.Norm ys)
    (hf : f = 1 ∨ f = -1) (hlim : n ≤ 1000000000 ∧ m ≤ 1000000000) (hz : Num.Can zs) (hv : Num.gval zs = Num.gval xs + f * Num.gval ys) :
    Calls Tryz.prog 69 #[.slice xa n cap, .slice (some ⟨ob, oy, none⟩) m capy, .int .i64 f] w (NewRow w zs) := by
  obtain ⟨l, hl⟩ : ∃ l, l = max n m + 1 := ⟨_, rfl⟩
  have hmk := run_makeInts l (by omega)
  rw [show (l : Int) = max (n : Int) m + 1 by omega] at hmk
  have hnl : n < l ∧ m < l ∧ l ≤ 1000000001 := by omega
  have hf0 : -999999999 ≤ f ∧ f ≤ 999999999 := by omega
  obtain ⟨W1, hcp, hrow1, hg1⟩ := run_copyInts (w.alloc (zeroRow l)) w.heap.size l xa cap n xs hn (Row.made w l) (fun h => (hx h).imp fun b h => h.imp fun o h => ⟨h.1, h.2.alloc _⟩) (by omega)
  have hB1 : Below w.heap.size w W1 := below_of_grown ((Below.refl _ _).alloc (Nat.le_refl _) _) hg1 (Nat.le_refl _)
  have hy1 : Sl W1 ob oy capy ys := hy.below hB1 hy.lt
  have hne : ob ≠ w.heap.size := Nat.ne_of_lt hy.lt
  obtain ⟨Z, hZ⟩ : ∃ Z, Z = xs ++ List.replicate (l - n) 0 := ⟨_, rfl⟩
  have hZl : Z.length = l := by rw [hZ]; simp [hn]; omega
  have hnorm : Num.Norm Z := by rw [hZ]; exact cx.append (Num.Norm.zeros _)
  have hlast : Z.getD (l - 1) 0 = 0 := by
    rw [hZ]; simp only [List.getD_eq_getElem?_getD]
    rw [List.getElem?_append_right (by omega), List.getElem?_replicate]; split <;> rfl
  have hgZ : Num.gval Z = Num.gval xs := by rw [hZ, Num.gval_append, Num.gval_zeros]; simp
  have hall : ∀ i, i < l → 0 ≤ Z.getD i 0 ∧ Z.getD i 0 < Num.B := fun i hi => by
    have := hnorm.at (show i < Z.length by omega)
    simp only [List.getD_eq_getElem?_getD]
    rw [List.getElem?_eq_getElem (by omega)]; exact this
  rw [← hZ] at hrow1
  have HR := Lib.hid hrow1
  have HL := Lib.hid hl
  have HZ := Lib.hid hZl
  have HA := Lib.hid hall
  have HLast := Lib.hid hlast
  have HG := Lib.hid hgZ
  have HV := Lib.hid hv
  have HM := Lib.hid hm
  have HB := Lib.hid hB1
  clear hl hrow1 hZl hall hlast hgZ hv hm hn hB1 hg1 hZ hf hx
  go_enter Tryz.func69, Tryz.ntmps69
  go_wp2_with fail
  refine (addTimes_any f W1 w.heap.size 0 l l ob oy capy m Z ys HM.out HR.out hy1 hne (by omega) (by have := HZ.out; omega) (by have := HZ.out; omega)
    (fun i hi => by rw [Nat.zero_add]; exact HA.out i (by omega)) (by rw [Nat.zero_add, HLast.out]; omega) cy hf0.1 hf0.2).mono ?_
  rintro e W2 ⟨rfl, ws, hfil, hrow2, hg2⟩
  have hpart : Num.part Z 0 l = Z := by unfold Num.part; rw [List.drop_zero, List.take_of_length_le (by have := HZ.out; omega)]
  rw [hpart] at hfil
  have hwl : ws.length = l := by rw [hfil.len, HZ.out]
  have hput : put Z 0 ws = ws := by unfold put; rw [List.take_zero, List.nil_append, List.drop_of_length_le (by have := HZ.out; omega), List.append_nil]
  rw [hput] at hrow2
  have hnn : 0 ≤ Num.gval Z + f * Num.gval ys := by rw [HG.out, ← HV.out]; exact Num.gval_nonneg hz.1
  have hws : Num.Norm ws := hfil.norm_all hnn (by rw [HZ.out]; exact HLast.out) (by have := HZ.out; omega)
  have htr : Num.trimmed ws = zs := Num.gval_inj (Num.Can.trimmed hws) hz (by rw [Num.gval_trimmed, hfil.eq, HG.out, HV.out])
  have hB2 : Below w.heap.size w W2 := below_of_grown HB.out hg2 (Nat.le_refl _)
  have hpre := (Num.trimmed_prefix ws).length_le
  have hsl := hrow2.prefix (Num.trimmed_prefix ws) (cap := l) (by omega) (by omega)
  rw [htr] at hsl
  have HTR := Lib.hid htr
  have HSL := Lib.hid hsl
  have HB2 := Lib.hid hB2
  have HRow := Lib.hid hrow2
  have HW := Lib.hid hwl
  clear htr hsl hB2 hrow2 hwl hput hpart hfil hws hpre hg2
  go_wp2_with fail
  refine (trim_any W2 _ 0 l l ws HW.out (HRow.out.sl (by have := HW.out; omega) (by omega))).mono ?_
  rintro e W3 ⟨rfl, rfl⟩
  go_wp2_with fail
  go_ret
  exact ⟨w.heap.size, l, by rw [← HTR.out]; rfl, HSL.out, Nat.le_refl _, HB2.out⟩

/-- what multiply leaves: a row of its own with the product -/
def Product (w : World) (xs ys : List Int) (e : Ending) (w' : World) : Prop :=
  ∃ Z, e = .returned (.slice (some ⟨w.heap.size, 0, none⟩) (xs.length + ys.length) (xs.length + ys.length)) ∧ Row w' w.heap.size Z ∧ Z.length = xs.length + ys.length ∧ Num.Norm Z ∧ Num.gval Z = Num.gval xs * Num.gval ys ∧ Below w.heap.size w w'

set_option maxRecDepth 100000 in
set_option maxHeartbeats 1000000 in
theorem multiply_any (w : World) (b o cap ob oy capy n m : Nat) (xs ys : List Int) (hn : xs.length = n) (hm : ys.length = m) (hx : Sl w b o cap xs) (hy : Sl w ob oy capy ys) (cx : Num.Norm xs) (cy : Num.Norm ys)
    (hlim : n ≤ 1000000000 ∧ m ≤ 1000000000) :
    Calls Tryz.prog 125 #[.slice (some ⟨b, o, none⟩) n cap, .slice (some ⟨ob, oy, none⟩) m capy] w (Product w xs ys) := by
  have hmk := run_makeInts (n + m) (by omega)
  rw [show ((n + m : Nat) : Int) = (n : Int) + m by omega] at hmk
  have HN := Lib.hid hn
  have HM := Lib.hid hm
  clear hn hm
  go_enter Tryz.func125, Tryz.ntmps125
  go_wp2
  go_loopw [16] (fun i wr => ∃ k : Nat, k ≤ n ∧ i = .int .i64 k ∧ ∃ Z, Num.MulInv xs ys (n + m) k Z ∧ Row wr w.heap.size Z ∧ Below w.heap.size w wr) (fun i _ => n - (intOf i).toNat)
  case atStart => exact ⟨0, Nat.zero_le _, rfl, _, Num.MulInv.start _ _ _, Row.made w _, (Below.refl _ _).alloc (Nat.le_refl _) _⟩
  case round =>
    obtain ⟨k, hk, rfl, Z, hinv, hrow, hB⟩ := hrel
    have HI := Lib.hid hinv
    have HR := Lib.hid hrow
    have HB := Lib.hid hB
    clear hinv hrow hB
    by_cases hlt : k < n
    · obtain ⟨x, hxx⟩ : ∃ x, x = xs.getD k 0 := ⟨_, rfl⟩
      have hc : wr.cell? ⟨b, o + k, none⟩ = some (.int .i64 x) := by
        rw [hxx]; exact (hx.below HB.out hx.lt).cell k (by have := HN.out; omega)
      have HX := Lib.hid hxx
      clear hxx
      have hne : ob ≠ w.heap.size := Nat.ne_of_lt hy.lt
      have hxb := cx.getD k
      have hyr := hy.below HB.out hy.lt
      go_wp2_with fail
      rw [show k + m + 1 - k = m + 1 by omega]
      refine (addTimes_any x wr w.heap.size k (m + 1) (n + m - k) ob oy capy m Z ys HM.out HR.out hyr hne (by omega) (by have := HI.out.len; omega) (by have := HI.out.len; omega)
        (fun i hi => HI.out.norm.getD _) (by have := HI.out.norm.getD (k + (m + 1 - 1)); unfold Num.B at this; omega) cy (by rw [← HX.out] at hxb; omega) (by rw [← HX.out] at hxb; unfold Num.B at hxb; omega)).mono ?_
      rintro e W2 ⟨rfl, ws, hfil, hrow2, hg2⟩
      have hB2 : Below w.heap.size w W2 := below_of_grown HB.out hg2 (Nat.le_refl _)
      have hinv2 := HI.out.step cy cx (by have := HM.out; omega) (by rw [HM.out, ← HX.out]; exact hfil)
      have HI2 := Lib.hid hinv2
      have HR2 := Lib.hid hrow2
      have HB2 := Lib.hid hB2
      clear hinv2 hrow2 hB2 hfil hg2 hyr
      go_wp2_with fail
      go_roundw
      case rel => exact ⟨k + 1, by omega, by go_num, _, HI2.out, HR2.out, HB2.out⟩
      case measure => simp [intOf]; omega
    · obtain rfl : k = n := by omega
      go_wp2_with fail
      go_ret
      refine ⟨Z, by rw [HN.out, HM.out]; rfl, HR.out, by rw [HN.out, HM.out]; exact HI.out.len, HI.out.norm, ?_, HB.out⟩
      rw [HI.out.eq, List.take_of_length_le (by have := HN.out; omega)]
end Go.Proofs.YtahnkmkmoalbhaaGreatDoor

/- The plain mathematics of long division: one group of the quotient by a guess that is not too small; the whole quotient; a number divided by one group. -/
namespace Go.Proofs.YtahnkmkmoalbhaaGreatDoor.Num

/-- all places but the last one are groups -/
def Init (ws : List Int) : Prop := ∀ i, i + 1 < ws.length → 0 ≤ ws.getD i 0 ∧ ws.getD i 0 < B

theorem Init.open {ws : List Int} {t : Nat} (h : Init ws) (hl : ws.length = t + 1) : ∃ r, r.length = t ∧ Norm r ∧ ws = r ++ [ws.getD t 0] ∧ gval ws = gval r + B ^ t * ws.getD t 0 := by
  have e : ws = ws.take t ++ [ws.getD t 0] := by
    conv => lhs; rw [← List.take_of_length_le (show ws.length ≤ t + 1 by omega)]
    rw [List.take_succ_eq_append_getElem (by omega)]; simp [List.getD, show t < ws.length by omega]
  have hrl : (ws.take t).length = t := by simp; omega
  refine ⟨ws.take t, hrl, ?_, e, ?_⟩
  · intro z hz
    obtain ⟨i, hi, rfl⟩ := List.getElem_of_mem hz
    have := h i (by omega)
    simp only [List.getElem_take]
    simpa [List.getD, show i < ws.length by omega] using this
  · conv => lhs; rw [e, gval_snoc, hrl]

theorem Init.neg_iff {ws : List Int} {t : Nat} (h : Init ws) (hl : ws.length = t + 1) : gval ws < 0 ↔ ws.getD t 0 < 0 := by
  obtain ⟨r, hr, hn, _, hg⟩ := h.open hl
  have h1 := gval_bounds hn
  rw [hr] at h1
  have hp := Bpow_pos t
  rw [hg]
  constructor
  · intro hlt
    by_cases hx : ws.getD t 0 < 0
    · exact hx
    · have := Int.mul_nonneg (Int.le_of_lt hp) (show 0 ≤ ws.getD t 0 by omega); omega
  · intro hx
    have := Int.mul_le_mul_of_nonneg_left (show ws.getD t 0 ≤ -1 by omega) (Int.le_of_lt hp)
    omega

theorem Init.last_bounds {ws : List Int} {t : Nat} (h : Init ws) (hl : ws.length = t + 1) (h0 : -(B * B ^ t) ≤ gval ws) (h1 : gval ws ≤ B * B ^ t) : -1000000001 ≤ ws.getD t 0 ∧ ws.getD t 0 ≤ 1000000000 := by
  obtain ⟨r, hr, hn, _, hg⟩ := h.open hl
  have hb := gval_bounds hn
  rw [hr] at hb
  have hp := Bpow_pos t
  constructor
  · by_cases hx : ws.getD t 0 ≤ -1000000002
    · have := Int.mul_le_mul_of_nonneg_left hx (Int.le_of_lt hp)
      unfold B at *; omega
    · omega
  · by_cases hx : 1000000001 ≤ ws.getD t 0
    · have := Int.mul_le_mul_of_nonneg_left hx (Int.le_of_lt hp)
      unfold B at *; omega
    · omega

theorem Init.norm {ws : List Int} {t : Nat} (h : Init ws) (hl : ws.length = t + 1) (h0 : 0 ≤ gval ws) (h1 : gval ws < B ^ t) : Norm ws := by
  obtain ⟨r, hr, hn, he, hg⟩ := h.open hl
  have hb := gval_bounds hn
  rw [hr] at hb
  have hp := Bpow_pos t
  rw [he]
  have hx := (h.neg_iff hl)
  refine hn.append (Norm.one (by by_cases hh : ws.getD t 0 < 0; exact absurd (hx.2 hh) (by omega); omega) ?_)
  by_cases hx : 1 ≤ ws.getD t 0
  · have := Int.mul_le_mul_of_nonneg_left hx (Int.le_of_lt hp); omega
  · unfold B; omega

/-- the guess of a group of the quotient is not too small -/
theorem guess_ge {seg D : List Int} {t : Nat} (hs : Norm seg) (hsl : seg.length = t + 2) (hd : Norm D) (hdl : D.length = t + 1) (hpos : 0 < D.getD t 0)
    {q : Int} (hq : q * gval D ≤ gval seg) (hq0 : 0 ≤ q) : q ≤ (seg.getD (t + 1) 0 * B + seg.getD t 0) / D.getD t 0 := by
  rw [Int.le_ediv_iff_mul_le hpos]
  have eD : gval D = gval (D.take t) + B ^ t * D.getD t 0 := by
    have := gval_take_succ D t
    rw [List.take_of_length_le (by omega)] at this; exact this
  have eS : gval seg = gval (seg.take t) + B ^ t * (seg.getD (t + 1) 0 * B + seg.getD t 0) := by
    have h1 := gval_take_succ seg (t + 1)
    have h2 := gval_take_succ seg t
    rw [List.take_of_length_le (by omega)] at h1
    rw [h1, h2, Int.pow_succ, Int.mul_add, Int.mul_assoc, Int.mul_comm B]
    omega
  have hlt := gval_lt (hs.take t)
  rw [List.length_take, Nat.min_eq_left (by omega)] at hlt
  have hD0 := gval_nonneg (hd.take t)
  have hp := Bpow_pos t
  have h3 : q * (B ^ t * D.getD t 0) ≤ q * gval D := by
    rw [eD]; exact Int.mul_le_mul_of_nonneg_left (by omega) hq0
  have h4 : B ^ t * (q * D.getD t 0) < B ^ t * (seg.getD (t + 1) 0 * B + seg.getD t 0 + 1) := by
    rw [Int.mul_add _ _ 1, Int.mul_one]
    have : B ^ t * (q * D.getD t 0) = q * (B ^ t * D.getD t 0) := by rw [← Int.mul_assoc, Int.mul_comm (B ^ t), Int.mul_assoc]
    omega
  have := Int.lt_of_mul_lt_mul_left h4 (Int.le_of_lt hp)
  omega

/-- while the quotient is guessed: g times D is taken off -/
structure RedInv (seg D : List Int) (t : Nat) (g : Int) (ws : List Int) : Prop where
  len : ws.length = t + 2
  init : Init ws
  eq : gval ws = gval seg - g * gval D
  ge : gval seg / gval D ≤ g
  le : g ≤ 999999999

theorem RedInv.last {seg D : List Int} {t : Nat} {g : Int} {ws : List Int} (h : RedInv seg D t g ws) (hs : Norm seg) (hsl : seg.length = t + 2) (hd : Norm D) (hdl : D.length = t + 1) (hD : 0 < gval D) :
    -1000000001 ≤ ws.getD (t + 1) 0 ∧ ws.getD (t + 1) 0 ≤ 1000000000 := by
  have hle := h.le
  have hge := h.ge
  have h0 : 0 ≤ g := Int.le_trans (Int.ediv_nonneg (gval_nonneg hs) (Int.le_of_lt hD)) hge
  have e1 := gval_bounds hs
  have e2 := gval_bounds hd
  rw [hsl] at e1
  rw [hdl] at e2
  have e3 := Int.mul_le_mul_of_nonneg_right hle (Int.le_of_lt hD)
  have e4 := Int.mul_nonneg h0 (Int.le_of_lt hD)
  have hp := Bpow_pos (t + 1)
  have e5 : B ^ (t + 2) = B * B ^ (t + 1) := by rw [Int.pow_succ, Int.mul_comm]
  refine h.init.last_bounds (t := t + 1) h.len ?_ ?_
  · rw [h.eq]
    have := Int.mul_le_mul_of_nonneg_left (Int.le_of_lt e2.2) (show (0 : Int) ≤ 999999999 by decide)
    unfold B at *; omega
  · rw [h.eq]; omega

theorem RedInv.again {seg D : List Int} {t : Nat} {g : Int} {ws vs : List Int} (h : RedInv seg D t g ws) (hD : 0 < gval D) (hneg : ws.getD (t + 1) 0 < 0) (hf : Filled ws D 1 vs) : RedInv seg D t (g - 1) vs ∧ 0 < g ∨ gval seg < 0 := by
  by_cases hs : gval seg < 0
  · exact .inr hs
  · left
    have hlt := (h.init.neg_iff (t := t + 1) h.len).2 hneg
    have he := h.eq
    have hg : gval seg / gval D < g := Int.ediv_lt_of_lt_mul hD (by omega)
    have h0 := Int.ediv_nonneg (show 0 ≤ gval seg by omega) (Int.le_of_lt hD)
    refine ⟨⟨by rw [hf.len, h.len], fun i hi => hf.norm i hi, ?_, by omega, by have := h.le; omega⟩, by omega⟩
    rw [hf.eq, he, Int.sub_mul]; omega

theorem RedInv.done {seg D : List Int} {t : Nat} {g : Int} {ws : List Int} (h : RedInv seg D t g ws) (hd : Norm D) (hdl : D.length = t + 1) (hD : 0 < gval D) (hpos : ¬ ws.getD (t + 1) 0 < 0) :
    Norm ws ∧ gval ws = gval seg - g * gval D ∧ 0 ≤ gval ws ∧ gval ws < gval D ∧ gval seg / gval D = g := by
  have hnn : ¬ gval ws < 0 := fun hh => hpos ((h.init.neg_iff (t := t + 1) h.len).1 hh)
  have he := h.eq
  have hle : g ≤ gval seg / gval D := Int.le_ediv_of_mul_le hD (by omega)
  have hge := h.ge
  have hq : gval seg / gval D = g := by omega
  have hm := Int.emod_lt_of_pos (gval seg) hD
  have hm2 := Int.emod_add_mul_ediv (gval seg) (gval D)
  rw [hq, Int.mul_comm] at hm2
  have hlt : gval ws < gval D := by omega
  have hb := gval_lt hd
  rw [hdl] at hb
  exact ⟨h.init.norm (t := t + 1) h.len (by omega) (by omega), he, by omega, hlt, hq⟩

/-! ### a number divided by one group -/

/-- the places from k on are done: what is left is r -/
structure ShrInv (xs : List Int) (d : Int) (k : Nat) (Q : List Int) (r : Int) : Prop where
  len : Q.length = xs.length
  norm : Norm Q
  lo : 0 ≤ r
  hi : r < d
  eq : gval (xs.drop k) = gval (Q.drop k) * d + r

theorem ShrInv.start (xs : List Int) {d : Int} (hd : 0 < d) : ShrInv xs d xs.length (List.replicate xs.length 0) 0 :=
  ⟨by simp, Norm.zeros _, by omega, hd, by rw [List.drop_of_length_le (Nat.le_refl _), List.drop_of_length_le (by simp)]; simp [gval]⟩

theorem ShrInv.step {xs : List Int} {d : Int} {k : Nat} {Q : List Int} {r x n : Int} (h : ShrInv xs d (k + 1) Q r) (hk : k < xs.length) (hx : Norm xs) (hd : 0 < d) (hxx : x = xs.getD k 0) (hn : n = r * B + x) :
    ShrInv xs d k (Q.set k (n / d)) (n % d) := by
  have hxb := hx.getD k
  rw [← hxx] at hxb
  have hlo := h.lo
  have hhi := h.hi
  have n0 : 0 ≤ n := by rw [hn]; unfold B at *; omega
  have n1 : n < B * d := by rw [hn]; unfold B at *; omega
  have q0 := Int.ediv_nonneg n0 (Int.le_of_lt hd)
  have q1 : n / d < B := Int.ediv_lt_of_lt_mul hd n1
  have hlen := h.len
  refine ⟨by simp [hlen], ?_, Int.emod_nonneg _ (by omega), Int.emod_lt_of_pos _ hd, ?_⟩
  · intro z hz
    rcases List.mem_or_eq_of_mem_set hz with hz | rfl
    · exact h.norm z hz
    · exact ⟨q0, q1⟩
  · rw [List.drop_eq_getElem_cons hk, List.drop_eq_getElem_cons (show k < (Q.set k (n / d)).length by rw [List.length_set]; omega)]
    have e1 : xs[k] = x := by rw [hxx]; simp [List.getD, hk]
    have e2 : (Q.set k (n / d)).drop (k + 1) = Q.drop (k + 1) := by rw [List.drop_set_of_lt (by omega)]
    rw [e1, e2]
    simp only [gval, List.getElem_set_self]
    rw [h.eq]
    have hm := Int.emod_add_mul_ediv n d
    rw [Int.add_mul, Int.mul_add, Int.mul_comm (n / d) d, Int.mul_comm B r, Int.mul_assoc]
    omega

theorem ShrInv.done {xs zs : List Int} {d : Int} {Q : List Int} {r : Int} (h : ShrInv xs d 0 Q r) (hd : 0 < d) (hz : Can zs) (he : gval xs = gval zs * d) : trimmed Q = zs := by
  refine gval_inj (Can.trimmed h.norm) hz ?_
  rw [gval_trimmed]
  have h1 := h.eq
  simp only [List.drop_zero] at h1
  rw [he] at h1
  have h2 := h.lo
  have h3 := h.hi
  have : (gval zs - gval Q) * d = r := by rw [Int.sub_mul]; omega
  by_cases hc : gval zs - gval Q = 0
  · omega
  · by_cases hc1 : 0 < gval zs - gval Q
    · have := Int.mul_le_mul_of_nonneg_right (show 1 ≤ gval zs - gval Q by omega) (Int.le_of_lt hd); omega
    · have := Int.mul_le_mul_of_nonneg_right (show gval zs - gval Q ≤ -1 by omega) (Int.le_of_lt hd); omega

theorem Can.last_pos {D : List Int} {t : Nat} (h : Can D) (hl : D.length = t + 1) : 0 < D.getD t 0 := by
  have h0 : D ≠ [] := by rintro rfl; simp at hl
  obtain ⟨r, c, rfl⟩ : ∃ r c, D = r ++ [c] := ⟨D.dropLast, D.getLast h0, (List.dropLast_concat_getLast h0).symm⟩
  have h1 := h.2
  have hc := h.1 c (by simp)
  rw [List.getLast?_append] at h1
  simp at h1
  have hr : r.length = t := by simpa using hl
  simp only [List.getD_eq_getElem?_getD]
  rw [List.getElem?_append_right (by omega), hr]
  simp; omega

theorem part_put {Z ws : List Int} {o m : Nat} (ho : o ≤ Z.length) (h : ws.length = m) : part (put Z o ws) o m = ws := by
  have e : (Z.take o).length = o := by simp; omega
  unfold part put
  conv => lhs; arg 2; arg 1; rw [← e]
  rw [List.drop_left, List.take_append_of_le_length (by omega), List.take_of_length_le (by omega)]
theorem put_put {Z ws vs : List Int} {o : Nat} (ho : o ≤ Z.length) (h : ws.length = vs.length) : put (put Z o ws) o vs = put Z o vs := by
  have e : (Z.take o).length = o := by simp; omega
  have e1 : (put Z o ws).take o = Z.take o := by
    unfold put
    rw [List.take_append_of_le_length (by omega), List.take_of_length_le (by omega)]
  have e2 : (put Z o ws).drop (o + vs.length) = Z.drop (o + vs.length) := by
    unfold put
    rw [← List.drop_drop]
    conv => lhs; arg 2; arg 1; rw [← e]
    rw [List.drop_left, ← h, List.drop_left]
  show (put Z o ws).take o ++ (vs ++ (put Z o ws).drop (o + vs.length)) = _
  rw [e1, e2]; rfl

end Go.Proofs.YtahnkmkmoalbhaaGreatDoor.Num

/- integer.reduce, shrink: walks. -/
namespace Go.Proofs.YtahnkmkmoalbhaaGreatDoor
open Go.RowKit
open Num (Part put Filled RedInv)

/-- what reduce leaves: the quotient, and the remainder in the place of the number -/
def Reduced (w : World) (b o t : Nat) (Z D : List Int) (e : Ending) (w' : World) : Prop :=
  ∃ q ws, e = .returned (.int .i64 q) ∧ Row w' b (put Z o ws) ∧ ws.length = t + 2 ∧ Num.Norm ws ∧ q = Num.gval (Num.part Z o (t + 2)) / Num.gval D ∧
    Num.gval ws = Num.gval (Num.part Z o (t + 2)) - q * Num.gval D ∧ 0 ≤ Num.gval ws ∧ Num.gval ws < Num.gval D ∧ w.grownBy w' (some b)

set_option maxRecDepth 100000 in
set_option maxHeartbeats 1000000 in
theorem reduce_any (w : World) (b o m cap ob oy capy k t : Nat) (Z D : List Int) (hk : k = t + 1) (hm : m = t + 2) (hr : Row w b Z) (hy : Sl w ob oy capy D) (hne : ob ≠ b) (hom : o + m ≤ Z.length) (hZ : Z.length ≤ 1099511627776)
    (hn : Num.Norm Z) (hD : Num.Can D) (hDl : D.length = t + 1) (hlt : Num.gval (Num.part Z o (t + 2)) < Num.B * Num.gval D) :
    Calls Tryz.prog 155 #[.slice (some ⟨b, o, none⟩) m cap, .slice (some ⟨ob, oy, none⟩) k capy] w (Reduced w b o t Z D) := by
  subst hk hm
  obtain ⟨r1, hr1⟩ : ∃ r1, r1 = Z.getD (o + (t + 1)) 0 := ⟨_, rfl⟩
  obtain ⟨r0, hr0⟩ : ∃ r0, r0 = Z.getD (o + t) 0 := ⟨_, rfl⟩
  obtain ⟨d, hd⟩ : ∃ d, d = D.getD t 0 := ⟨_, rfl⟩
  have c1 : w.cell? ⟨b, o + (t + 1), none⟩ = some (.int .i64 r1) := by rw [hr1]; exact hr.cell (by omega)
  have c0 : w.cell? ⟨b, o + t, none⟩ = some (.int .i64 r0) := by rw [hr0]; exact hr.cell (by omega)
  have cd : w.cell? ⟨ob, oy + t, none⟩ = some (.int .i64 d) := by rw [hd]; exact hy.cell t (by omega)
  have hb1 := hn.getD (o + (t + 1))
  have hb0 := hn.getD (o + t)
  have hbd := hD.1.getD t
  rw [← hr1] at hb1
  rw [← hr0] at hb0
  rw [← hd] at hbd
  have hd0 : 0 < d := by rw [hd]; exact hD.last_pos hDl
  unfold Num.B at hb1 hb0 hbd
  obtain ⟨g, hg⟩ : ∃ g, min ((r1 * 1000000000 + r0) / d) 999999999 = g := ⟨_, rfl⟩
  have hq0 : 0 ≤ (r1 * 1000000000 + r0) / d := Int.ediv_nonneg (by omega) (by omega)
  have hgb : 0 ≤ g ∧ g ≤ 999999999 := by omega
  have hDpos : 0 < Num.gval D := Num.gval_pos hD (by rintro rfl; simp at hDl)
  have hsl : (Num.part Z o (t + 2)).length = t + 2 := Num.part_length (by omega)
  have hsn : Num.Norm (Num.part Z o (t + 2)) := hn.part o (t + 2)
  have hge : Num.gval (Num.part Z o (t + 2)) / Num.gval D ≤ g := by
    have h1 : Num.gval (Num.part Z o (t + 2)) / Num.gval D * Num.gval D ≤ Num.gval (Num.part Z o (t + 2)) := Int.ediv_mul_le _ (by omega)
    have h2 := Num.guess_ge hsn hsl hD.1 hDl (by rw [← hd]; exact hd0) h1 (Int.ediv_nonneg (Num.gval_nonneg hsn) (by omega))
    rw [Num.part_getD (by omega), Num.part_getD (by omega), ← hd, ← hr1, ← hr0] at h2
    have h3 : Num.gval (Num.part Z o (t + 2)) / Num.gval D < Num.B := Int.ediv_lt_of_lt_mul hDpos hlt
    unfold Num.B at h2 h3
    omega
  have HS := Lib.hid (And.intro hsl hsn)
  have HGE := Lib.hid hge
  clear hsl hsn hge
  have HL := Lib.hid hDl
  have H1 := Lib.hid hr1
  have H0 := Lib.hid hr0
  have HD := Lib.hid hd
  have HLT := Lib.hid hlt
  have HR := Lib.hid hr
  clear hDl hr1 hr0 hd hlt hr
  go_enter Tryz.func155, Tryz.ntmps155
  go_wp2_with fail
  go_quiet (fail)
  go_wp2_with fail
  have hlast : ∀ i, 0 ≤ Z.getD (o + i) 0 ∧ Z.getD (o + i) 0 < Num.B := fun i => hn.getD (o + i)
  refine (addTimes_any (-g) _ b o (t + 2) cap ob oy capy (t + 1) Z D HL.out (HR.out.drewN _) (hy.drewN _) hne (by omega) (by omega) hZ (fun i _ => hlast i) (by have := hlast (t + 2 - 1); unfold Num.B at this; omega) hD.1 (by omega) (by omega)).mono ?_
  rintro e W1 ⟨rfl, ws, hfil, hrow1, hg1⟩
  have hinv : RedInv (Num.part Z o (t + 2)) D t g ws := ⟨by rw [hfil.len, HS.out.1], fun i hi => hfil.norm i hi, by rw [hfil.eq, Int.neg_mul]; omega, HGE.out, hgb.2⟩
  have hg2 : w.grownBy W1 (some b) := grown_trans (grown_drewN (grown_refl w _) _) hg1
  have HI := Lib.hid hinv
  have HR1 := Lib.hid hrow1
  have HG1 := Lib.hid hg2
  clear hinv hrow1 hg2 hg1 hfil hlast hg hq0
  go_wp2_with fail
  go_loopw [6] (fun gv wr => ∃ (g : Int) (ws : List Int), gv = .int .i64 g ∧ 0 ≤ g ∧ RedInv (Num.part Z o (t + 2)) D t g ws ∧ Row wr b (put Z o ws) ∧ w.grownBy wr (some b)) (fun gv _ => (intOf gv).toNat)
  case atStart => exact ⟨g, ws, rfl, hgb.1, HI.out, HR1.out, HG1.out⟩
  case round =>
    clear HI HR1 HG1 hgb HGE
    obtain ⟨g, ws, rfl, hg0, hinv, hrow, hgr⟩ := hrel
    have hg9 := hinv.le
    obtain ⟨x, hx⟩ : ∃ x, x = ws.getD (t + 1) 0 := ⟨_, rfl⟩
    have hpl : (put Z o ws).length = Z.length := Num.put_length (by rw [hinv.len]; omega)
    have hc : wr.cell? ⟨b, o + (t + 1), none⟩ = some (.int .i64 x) := by
      rw [hrow.cell (by omega), Num.put_getD_in (by omega) (by rw [hinv.len]; omega), hx]
    have hlb := hinv.last HS.out.2 HS.out.1 hD.1 HL.out hDpos
    rw [← hx] at hlb
    have hyr : Sl wr ob oy capy D := hy.grown hgr (by simp; exact hne)
    have HI := Lib.hid hinv
    have HRw := Lib.hid hrow
    have HG := Lib.hid hgr
    have HX := Lib.hid hx
    have HP := Lib.hid hpl
    clear hinv hrow hgr hx hpl
    by_cases hneg : x < 0
    · have hwsl := HI.out.len
      have hin : ∀ i, i + 1 < t + 2 → 0 ≤ (put Z o ws).getD (o + i) 0 ∧ (put Z o ws).getD (o + i) 0 < Num.B := fun i hi => by
        rw [Num.put_getD_in (by omega) (by omega)]; exact HI.out.init i (by omega)
      have hin2 : (put Z o ws).getD (o + (t + 2 - 1)) 0 = x := by
        rw [show t + 2 - 1 = t + 1 by omega, Num.put_getD_in (by omega) (by omega), HX.out]
      have HWL := Lib.hid hwsl
      have HIN := Lib.hid hin
      have HIN2 := Lib.hid hin2
      clear hwsl hin hin2
      go_wp2_with fail
      refine (addTimes_any 1 wr b o (t + 2) cap ob oy capy (t + 1) (put Z o ws) D HL.out HRw.out hyr hne (by omega) (by have := HP.out; omega) (by have := HP.out; omega) HIN.out (by rw [HIN2.out]; omega) hD.1 (by omega) (by omega)).mono ?_
      rintro e W2 ⟨rfl, vs, hfil, hrow2, hg2⟩
      rw [Num.part_put (by omega) HWL.out] at hfil
      rw [Num.put_put (by omega) (by rw [hfil.len])] at hrow2
      have hinv2 : RedInv (Num.part Z o (t + 2)) D t (g - 1) vs ∧ 0 < g := by
        rcases HI.out.again hDpos (by rw [← HX.out]; exact hneg) hfil with h | h
        · exact h
        · have := Num.gval_nonneg HS.out.2; omega
      have hg0' := hinv2.2
      have HI2 := Lib.hid hinv2.1
      have HR2 := Lib.hid hrow2
      have HG2 := Lib.hid (grown_trans HG.out hg2)
      clear hinv2 hrow2 hg2 hfil
      go_wp2_with fail
      go_roundw
      case rel => exact ⟨g - 1, vs, rfl, by omega, HI2.out, HR2.out, HG2.out⟩
      case measure => simp [intOf]; omega
    · have hdone := HI.out.done hD.1 HL.out hDpos (by rw [← HX.out]; exact hneg)
      have HDn := Lib.hid hdone
      clear hdone
      go_wp2_with fail
      go_ret
      exact ⟨g, ws, rfl, HRw.out, HI.out.len, HDn.out.1, HDn.out.2.2.2.2.symm, HDn.out.2.1, HDn.out.2.2.1, HDn.out.2.2.2.1, HG.out⟩

set_option maxRecDepth 100000 in
set_option maxHeartbeats 1000000 in
theorem shrink_any (d : Int) (w : World) (b o cap n : Nat) (xs zs : List Int) (hn : xs.length = n) (hx : Sl w b o cap xs) (cx : Num.Norm xs) (hd : 1 ≤ d ∧ d ≤ 1000000000) (hz : Num.Can zs) (hv : Num.gval xs = Num.gval zs * d) (hlim : n ≤ 1000000000000) :
    Calls Tryz.prog 156 #[.slice (some ⟨b, o, none⟩) n cap, .int .i64 d] w (NewRow w zs) := by
  have hmk := run_makeInts n (by omega)
  have HN := Lib.hid hn
  have HV := Lib.hid hv
  clear hn hv
  go_enter Tryz.func156, Tryz.ntmps156
  go_wp2_with fail
  go_loopw [6, 7] (fun rv iv wr => ∃ (k : Nat) (r : Int), k ≤ n ∧ iv = .int .i64 ((k : Int) - 1) ∧ rv = .int .i64 r ∧ 0 ≤ r ∧ r < d ∧ ∃ Q, Num.ShrInv xs d k Q r ∧ Row wr w.heap.size Q ∧ Below w.heap.size w wr) (fun _ iv _ => (intOf iv + 1).toNat)
  case atStart => exact ⟨n, 0, Nat.le_refl _, rfl, rfl, by omega, by omega, _, by have := Num.ShrInv.start xs (show 0 < d by omega); rw [HN.out] at this; exact this, Row.made w n, (Below.refl _ _).alloc (Nat.le_refl _) _⟩
  case round =>
    obtain ⟨k, r, hk, rfl, rfl, r0, r1, Q, hinv, hrow, hB⟩ := hrel
    have HI := Lib.hid hinv
    have HR := Lib.hid hrow
    have HB := Lib.hid hB
    have HQ := Lib.hid hinv.len
    clear hinv hrow hB
    by_cases h0 : k = 0
    · subst h0
      have hsl := HR.out.sl (cap := n) (by rw [HQ.out, HN.out]; omega) (by omega)
      have htr := HI.out.done (show 0 < d by omega) hz HV.out
      have hpre : zs <+: Q := by rw [← htr]; exact Num.trimmed_prefix Q
      have hres := HR.out.prefix hpre (cap := n) (by have := hpre.length_le; rw [HQ.out, HN.out] at this; exact this) (by omega)
      have HTR := Lib.hid htr
      have HRes := Lib.hid hres
      clear htr hpre hres
      go_wp2_with fail
      refine (trim_any wr _ 0 n n Q (by rw [HQ.out, HN.out]) hsl).mono ?_
      rintro e W3 ⟨rfl, rfl⟩
      go_wp2_with fail
      go_ret
      exact ⟨w.heap.size, n, by rw [← HTR.out]; rfl, HRes.out, Nat.le_refl _, HB.out⟩
    · obtain ⟨j, rfl⟩ : ∃ j, k = j + 1 := ⟨k - 1, by omega⟩
      rw [show ((j + 1 : Nat) : Int) - 1 = (j : Int) by omega]
      obtain ⟨x, hxx⟩ : ∃ x, x = xs.getD j 0 := ⟨_, rfl⟩
      have hc : wr.cell? ⟨b, o + j, none⟩ = some (.int .i64 x) := by rw [hxx]; exact (hx.below HB.out hx.lt).cell j (by have := HN.out; omega)
      have hxb := cx.getD j
      rw [← hxx] at hxb
      unfold Num.B at hxb
      have hn0 : 0 ≤ r * 1000000000 + x ∧ r * 1000000000 + x < 1000000000 * d := by omega
      have hq : (r * 1000000000 + x) / d < 1000000000 ∧ 0 ≤ (r * 1000000000 + x) / d := ⟨Int.ediv_lt_of_lt_mul (by omega) hn0.2, Int.ediv_nonneg hn0.1 (by omega)⟩
      have hrm : 0 ≤ (r * 1000000000 + x) % d ∧ (r * 1000000000 + x) % d < d := ⟨Int.emod_nonneg _ (by omega), Int.emod_lt_of_pos _ (by omega)⟩
      have hf : wr.frozen? ⟨w.heap.size, j, none⟩ = false := HR.out.frozen j
      obtain ⟨v0, hv0⟩ : ∃ v0, wr.cell? ⟨w.heap.size, j, none⟩ = some (.int .i64 v0) := ⟨_, HR.out.cell (by rw [HQ.out, HN.out]; omega)⟩
      have HX := Lib.hid hxx
      clear hxx
      have hst := HI.out.step (by have := HN.out; omega) cx (show 0 < d by omega) HX.out (n := r * 1000000000 + x) rfl
      have H := Lib.hid hst
      clear hst
      go_wp2_with fail
      go_roundw
      case rel => exact ⟨j, _, by omega, rfl, rfl, hrm.1, hrm.2, _, H.out, HR.out.set _ _, HB.out.setCell (p := ⟨w.heap.size, j, none⟩) (Nat.le_refl _) _⟩
      case measure => simp [intOf]
end Go.Proofs.YtahnkmkmoalbhaaGreatDoor

/- The plain mathematics of long division: the whole. -/
namespace Go.Proofs.YtahnkmkmoalbhaaGreatDoor.Num

/-- the groups of a number -/
def groups (z : Int) : List Int := grps (digs z.toNat)
theorem Can.groups (z : Int) : Can (groups z) := Can.grps (Plain.digs _)
theorem gval_groups {z : Int} (h : 0 ≤ z) : gval (groups z) = z := by
  unfold Num.groups; rw [gval_grps, num_digs]; omega

/-- the divisor times the factor has as many groups as the divisor -/
theorem scaled_length {ys D : List Int} {t : Nat} {F : Int} (hy : Can ys) (hyl : ys.length = t + 1) (hF : F = 1000000000 / (ys.getD t 0 + 1)) (hD : Can D) (hg : gval D = gval ys * F) :
    D.length = t + 1 ∧ 1 ≤ F ∧ F ≤ 500000000 := by
  have hd := hy.last_pos hyl
  have hb := (hy.1.getD t).2
  unfold B at hb
  have h1 : F * (ys.getD t 0 + 1) ≤ 1000000000 := by rw [hF]; exact Int.ediv_mul_le _ (by omega)
  have hF1 : 1 ≤ F := by rw [hF]; exact Int.le_ediv_of_mul_le (by omega) (by omega)
  have hF2 : F ≤ 500000000 := by
    have := Int.mul_le_mul_of_nonneg_left (show 2 ≤ ys.getD t 0 + 1 by omega) (show 0 ≤ F by omega); omega
  refine ⟨?_, hF1, hF2⟩
  have hY0 : ys ≠ [] := by rintro rfl; simp at hyl
  have eY : gval ys = gval (ys.take t) + B ^ t * ys.getD t 0 := by
    have := gval_take_succ ys t
    rw [List.take_of_length_le (by omega)] at this; exact this
  have hlt := gval_lt (hy.1.take t)
  rw [List.length_take, Nat.min_eq_left (by omega)] at hlt
  have hp := Bpow_pos t
  have hYlt : gval ys < B ^ t * (ys.getD t 0 + 1) := by rw [eY, Int.mul_add _ _ 1, Int.mul_one]; omega
  have hup : gval D < B ^ (t + 1) := by
    rw [hg, Int.pow_succ]
    have h2 := Int.mul_lt_mul_of_pos_right hYlt (show 0 < F by omega)
    have h3 : B ^ t * (ys.getD t 0 + 1) * F = B ^ t * (F * (ys.getD t 0 + 1)) := by rw [Int.mul_assoc, Int.mul_comm F]
    have h4 := Int.mul_le_mul_of_nonneg_left h1 (Int.le_of_lt hp)
    unfold B at *; omega
  have hYge := gval_ge hy hY0
  rw [hyl, Nat.add_sub_cancel] at hYge
  have hYpos := gval_pos hy hY0
  have hdn : B ^ t ≤ gval D := by
    rw [hg]
    have := Int.mul_le_mul_of_nonneg_left hF1 (Int.le_of_lt hYpos)
    omega
  have hD0 : D ≠ [] := by rintro rfl; simp [gval] at hdn; omega
  by_cases hl1 : D.length ≤ t
  · have := gval_lt hD.1
    have := Bpow_mono hl1; omega
  · by_cases hl2 : t + 2 ≤ D.length
    · have h5 := gval_ge hD hD0
      have := Bpow_mono (show t + 1 ≤ D.length - 1 by omega); omega
    · omega

/-- the places of the quotient from k on are done -/
structure DivInv (XF : Int) (D : List Int) (n t k : Nat) (Z Q : List Int) : Prop where
  zlen : Z.length = n + 1
  qlen : Q.length = n - t
  znorm : Norm Z
  qnorm : Norm Q
  eq : XF = gval Z + B ^ k * gval (Q.drop k) * gval D
  lt : gval (Z.drop k) < gval D

theorem gval_drop (Z : List Int) (k : Nat) (h : k ≤ Z.length) : gval Z = gval (Z.take k) + B ^ k * gval (Z.drop k) := by
  conv => lhs; rw [← List.take_append_drop k Z, gval_append, List.length_take, Nat.min_eq_left h]

theorem DivInv.start {xs ys D Z : List Int} {n t : Nat} {F : Int} (hx : Norm xs) (hxl : xs.length = n) (hy : Can ys) (hyl : ys.length = t + 1) (hnt : t + 1 ≤ n) (hF : 1 ≤ F) (hD : gval D = gval ys * F)
    (hZ : Norm Z) (hZl : Z.length = n + 1) (hg : gval Z = gval xs * F) : DivInv (gval xs * F) D n t (n - t) Z (List.replicate (n - t) 0) := by
  refine ⟨hZl, by simp, hZ, Norm.zeros _, ?_, ?_⟩
  · rw [List.drop_of_length_le (by simp), hg]; simp [gval]
  · have hX := gval_lt hx
    rw [hxl] at hX
    have hY0 : ys ≠ [] := by rintro rfl; simp at hyl
    have hYge := gval_ge hy hY0
    rw [hyl, Nat.add_sub_cancel] at hYge
    by_cases hc : gval (Z.drop (n - t)) < gval D
    · exact hc
    · exfalso
      have h1 := gval_drop Z (n - t) (by omega)
      have h2 := gval_nonneg (hZ.take (n - t))
      have hp := Bpow_pos (n - t)
      have h3 := Int.mul_le_mul_of_nonneg_left (show gval D ≤ gval (Z.drop (n - t)) by omega) (Int.le_of_lt hp)
      have h4 : B ^ n * F ≤ B ^ (n - t) * gval D := by
        rw [hD, ← Int.mul_assoc]
        refine Int.mul_le_mul_of_nonneg_right ?_ (by omega)
        have := Int.mul_le_mul_of_nonneg_left hYge (Int.le_of_lt hp)
        rw [← Int.pow_add, show n - t + t = n by omega] at this
        exact this
      have h5 := Int.mul_lt_mul_of_pos_right hX (show 0 < F by omega)
      omega

theorem gval_cons_part {Z : List Int} {i m : Nat} (h : i < Z.length) : gval (part Z i (m + 1)) = Z.getD i 0 + B * gval (part Z (i + 1) m) := by
  unfold part
  rw [List.drop_eq_getElem_cons h, List.take_succ_cons]
  simp [gval, List.getD, h]

theorem DivInv.seg_lt {XF : Int} {D : List Int} {n t i : Nat} {Z Q : List Int} (h : DivInv XF D n t (i + 1) Z Q) (hi : i < n - t) : gval (part Z i (t + 2)) < B * gval D := by
  have hl := h.zlen
  have h1 := gval_drop (Z.drop (i + 1)) (t + 1) (by simp; omega)
  have h2 := gval_nonneg ((h.znorm.drop (i + 1)).drop (t + 1))
  have h3 := Int.mul_nonneg (Int.le_of_lt (Bpow_pos (t + 1))) h2
  have h4 := h.lt
  have hz := h.znorm.getD i
  rw [gval_cons_part (by omega)]
  unfold part
  unfold B at *
  omega

theorem DivInv.step {XF : Int} {D : List Int} {n t i : Nat} {Z Q ws : List Int} {q : Int} (h : DivInv XF D n t (i + 1) Z Q) (hi : i < n - t) (hD : Can D) (hDl : D.length = t + 1)
    (hwl : ws.length = t + 2) (hwn : Norm ws) (hq : q = gval (part Z i (t + 2)) / gval D) (hw : gval ws = gval (part Z i (t + 2)) - q * gval D) (hlt : gval ws < gval D) :
    DivInv XF D n t i (put Z i ws) (Q.set i q) := by
  have hl := h.zlen
  have hql := h.qlen
  have hDpos : 0 < gval D := gval_pos hD (by rintro rfl; simp at hDl)
  have hsn := gval_nonneg (h.znorm.part i (t + 2))
  have q0 : 0 ≤ q := by rw [hq]; exact Int.ediv_nonneg hsn (by omega)
  have q1 : q < B := by rw [hq]; exact Int.ediv_lt_of_lt_mul hDpos (h.seg_lt hi)
  refine ⟨by rw [put_length (by omega)]; exact hl, by simp [hql], h.znorm.put hwn i, ?_, ?_, ?_⟩
  · intro z hz
    rcases List.mem_or_eq_of_mem_set hz with hz | rfl
    · exact h.qnorm z hz
    · exact ⟨q0, q1⟩
  · rw [gval_put (by omega), hwl, hw]
    rw [List.drop_eq_getElem_cons (show i < (Q.set i q).length by rw [List.length_set]; omega)]
    rw [show (Q.set i q).drop (i + 1) = Q.drop (i + 1) by rw [List.drop_set_of_lt (by omega)]]
    simp only [gval, List.getElem_set_self]
    have he := h.eq
    rw [Int.pow_succ] at he
    rw [he, Int.mul_add, Int.add_mul]
    have e1 : B ^ i * (gval (part Z i (t + 2)) - q * gval D - gval (part Z i (t + 2))) = -(B ^ i * q * gval D) := by
      rw [show gval (part Z i (t + 2)) - q * gval D - gval (part Z i (t + 2)) = -(q * gval D) by omega, Int.mul_neg, Int.mul_assoc]
    have e2 : B ^ i * (B * gval (List.drop (i + 1) Q)) = B ^ i * B * gval (List.drop (i + 1) Q) := by rw [Int.mul_assoc]
    rw [e1, e2]
    omega
  · have hZd : (put Z i ws).drop i = ws ++ Z.drop (i + (t + 2)) := by
      have e : (Z.take i).length = i := by simp; omega
      unfold put
      conv => lhs; arg 1; rw [← e]
      rw [List.drop_left, hwl]
    rw [hZd, gval_append, hwl]
    have h1 := gval_drop (Z.drop (i + 1)) (t + 1) (by simp; omega)
    have h2 := gval_nonneg ((h.znorm.drop (i + 1)).take (t + 1))
    have h4 := h.lt
    have hDlt := gval_lt hD.1
    rw [hDl] at hDlt
    rw [List.drop_drop, show i + 1 + (t + 1) = i + (t + 2) by omega] at h1
    have h5 : gval (Z.drop (i + (t + 2))) = 0 := by
      have h6 := gval_nonneg (h.znorm.drop (i + (t + 2)))
      by_cases hc : 1 ≤ gval (Z.drop (i + (t + 2)))
      · have := Int.mul_le_mul_of_nonneg_left hc (Int.le_of_lt (Bpow_pos (t + 1))); omega
      · omega
    rw [h5]; omega

/-- the end: quotient and remainder -/
theorem DivInv.done {X Y F : Int} {D : List Int} {n t : Nat} {Z Q : List Int} (h : DivInv (X * F) D n t 0 Z Q) (hD : gval D = Y * F) (hF : 1 ≤ F) :
    ∃ rs, Can rs ∧ gval Z = gval rs * F ∧ X = gval (trimmed Q) * Y + gval rs ∧ gval rs < Y := by
  have he := h.eq
  have hlt := h.lt
  simp only [List.drop_zero, Int.pow_zero, Int.one_mul] at he hlt
  rw [hD] at he hlt
  have hz := gval_nonneg h.znorm
  have e1 : gval Z = (X - gval Q * Y) * F := by rw [Int.sub_mul, Int.mul_assoc]; omega
  have hr0 : 0 ≤ X - gval Q * Y := by
    by_cases hc : X - gval Q * Y ≤ -1
    · have := Int.mul_le_mul_of_nonneg_right hc (show 0 ≤ F by omega); omega
    · omega
  have hr1 : X - gval Q * Y < Y := by
    rw [e1] at hlt
    exact Int.lt_of_mul_lt_mul_right hlt (by omega)
  refine ⟨groups (X - gval Q * Y), Can.groups _, ?_, ?_, ?_⟩
  · rw [gval_groups hr0]; exact e1
  · rw [gval_groups hr0, gval_trimmed]; omega
  · rw [gval_groups hr0]; exact hr1

end Go.Proofs.YtahnkmkmoalbhaaGreatDoor.Num

/- integer.divide: the walk. -/
namespace Go.Proofs.YtahnkmkmoalbhaaGreatDoor
open Go.RowKit
open Num (put)

/-- what divide leaves: quotient (perhaps nil) and remainder -/
def Divided (w : World) (xs ys : List Int) (e : Ending) (w' : World) : Prop :=
  ∃ qs rs qa qcap rb ro rcap, e = .returned (.tuple #[.slice qa qs.length qcap, .slice (some ⟨rb, ro, none⟩) rs.length rcap]) ∧ Num.Can qs ∧ Num.Can rs ∧
    Num.gval xs = Num.gval qs * Num.gval ys + Num.gval rs ∧ Num.gval rs < Num.gval ys ∧
    (0 < qs.length → ∃ b o, qa = some ⟨b, o, none⟩ ∧ Sl w' b o qcap qs) ∧ Sl w' rb ro rcap rs ∧ qs.length ≤ xs.length ∧ rs.length ≤ xs.length + 1 ∧ Below w.heap.size w w'

set_option maxRecDepth 100000 in
set_option maxHeartbeats 1000000 in
theorem divide_less (w : World) (b o cap ob oy capy n m : Nat) (xs ys : List Int) (hn : xs.length = n) (hm : ys.length = m) (hx : Sl w b o cap xs) (hy : Sl w ob oy capy ys) (cx : Num.Can xs) (cy : Num.Can ys)
    (hlt : Num.gval xs < Num.gval ys) :
    Calls Tryz.prog 124 #[.slice (some ⟨b, o, none⟩) n cap, .slice (some ⟨ob, oy, none⟩) m capy] w (Divided w xs ys) := by
  have hc := cmp3_lt hlt
  have HN := Lib.hid hn
  have HM := Lib.hid hm
  have HC := Lib.hid hc
  clear hn hm hc
  go_enter Tryz.func124, Tryz.ntmps124
  go_wp2_with fail
  refine (compareGroups_any w b o cap ob oy capy n m xs ys HN.out HM.out hx hy cx cy).mono ?_
  rintro e w1 ⟨rfl, k, rfl⟩
  rw [HC.out]
  go_wp2_with fail
  go_ret2
  exact ⟨[], xs, none, 0, b, o, cap, by rw [HN.out]; rfl, Num.Can.nil, cx, by simp [Num.gval], hlt, fun h => by simp at h, hx.drewN k, by simp, by omega, below_drewN (Below.refl _ _) k⟩

theorem one_sl (w : World) (z : Int) : Sl (w.alloc (.cells #[.int .i64 z] 3)) w.heap.size 0 1 [z] := by
  have h : Row (w.alloc (.cells #[.int .i64 z] 3)) w.heap.size [z] := by unfold Row; rw [heap_alloc_new]; rfl
  exact h.sl (Nat.le_refl _) (by omega)

/-- what multiplying by one group leaves -/
def Times (w : World) (xs : List Int) (F : Int) (l : Nat) (e : Ending) (w' : World) : Prop :=
  ∃ bz Z, e = .returned (.slice (some ⟨bz, 0, none⟩) l l) ∧ w.heap.size ≤ bz ∧ Row w' bz Z ∧ Z.length = l ∧ Num.Norm Z ∧ Num.gval Z = Num.gval xs * F ∧ Below w.heap.size w w'

theorem times_any (w : World) (b o cap g n : Nat) (F : Int) (xs : List Int) (hn : xs.length = n) (hx : Sl w b o cap xs) (hg : Sl w g 0 1 [F]) (cx : Num.Norm xs) (hF : 1 ≤ F ∧ F ≤ 500000000) (hlim : n ≤ 1000000000) :
    Calls Tryz.prog 125 #[.slice (some ⟨b, o, none⟩) n cap, .slice (some ⟨g, 0, none⟩) 1 1] w (Times w xs F (n + 1)) := by
  refine (multiply_any w b o cap g 0 1 n 1 xs [F] hn rfl hx hg cx (Num.Norm.one (by omega) (by unfold Num.B; omega)) (by omega)).mono ?_
  rintro e w' ⟨Z, rfl, h1, h2, h3, h4, h5⟩
  rw [hn] at h2 ⊢
  exact ⟨w.heap.size, Z, rfl, Nat.le_refl _, h1, h2, h3, by rw [h4, Num.gval_one], h5⟩

set_option maxRecDepth 100000 in
set_option maxHeartbeats 2000000 in
theorem divide_more (w : World) (b o cap ob oy capy n m t : Nat) (xs ys : List Int) (hn : xs.length = n) (hm : ys.length = m) (hmt : m = t + 1) (hx : Sl w b o cap xs) (hy : Sl w ob oy capy ys) (cx : Num.Can xs) (cy : Num.Can ys)
    (hge : ¬ Num.gval xs < Num.gval ys) (hlim : n ≤ 999999990) :
    Calls Tryz.prog 124 #[.slice (some ⟨b, o, none⟩) n cap, .slice (some ⟨ob, oy, none⟩) m capy] w (Divided w xs ys) := by
  subst hmt
  have hnm : t + 1 ≤ n := by
    by_cases h : n < t + 1
    · exact absurd (Num.gval_lt_of_length cx cy (by omega)) hge
    · omega
  have hc : ¬ cmp3 (Num.gval xs) (Num.gval ys) < 0 := by
    unfold cmp3; rw [if_neg hge]; split <;> omega
  obtain ⟨c, hcc⟩ : ∃ c, c = cmp3 (Num.gval xs) (Num.gval ys) := ⟨_, rfl⟩
  rw [← hcc] at hc
  obtain ⟨d, hd⟩ : ∃ d, d = ys.getD t 0 := ⟨_, rfl⟩
  have cd : w.cell? ⟨ob, oy + t, none⟩ = some (.int .i64 d) := by rw [hd]; exact hy.cell t (by omega)
  have hd0 : 0 < d := by rw [hd]; exact cy.last_pos hm
  have hd1 : d < 1000000000 := by rw [hd]; exact (cy.1.getD t).2
  obtain ⟨F, hF⟩ : ∃ F, 1000000000 / (d + 1) = F := ⟨_, rfl⟩
  obtain ⟨DD, hDD⟩ : ∃ DD, DD = Num.groups (Num.gval ys * F) := ⟨_, rfl⟩
  have hYpos := Num.gval_pos cy (by rintro rfl; simp at hm)
  have hF0 : 0 ≤ F := by rw [← hF]; exact Int.ediv_nonneg (by omega) (by omega)
  have hDg : Num.gval DD = Num.gval ys * F := by rw [hDD]; exact Num.gval_groups (Int.mul_nonneg (by omega) hF0)
  have hDc : Num.Can DD := by rw [hDD]; exact Num.Can.groups _
  have hsc := Num.scaled_length cy hm (by rw [← hd]; exact hF.symm) hDc hDg
  have hF1 := hsc.2
  have HN := Lib.hid hn
  have HM := Lib.hid hm
  have HC := Lib.hid hcc
  have HD := Lib.hid hd
  have HDg := Lib.hid hDg
  have HDl := Lib.hid hsc.1
  clear hn hm hcc hd hDD hDg hsc
  go_enter Tryz.func124, Tryz.ntmps124
  go_wp2_with fail
  refine (compareGroups_any w b o cap ob oy capy n (t + 1) xs ys HN.out HM.out hx hy cx cy).mono ?_
  rintro e w1 ⟨rfl, k, rfl⟩
  rw [← HC.out]
  go_wp2_with fail
  rw [hF]
  have HF := Lib.hid hF
  clear hF
  obtain ⟨W1, hW1⟩ : ∃ W1, W1 = (w.drewN k).alloc (.cells #[.int .i64 F] 3) := ⟨_, rfl⟩
  have hB1 : Below w.heap.size w W1 := by rw [hW1]; exact (below_drewN (Below.refl _ _) k).alloc (Nat.le_refl _) _
  have hs1 : Sl W1 w.heap.size 0 1 [F] := by rw [hW1]; exact one_sl (w.drewN k) F
  rw [← hW1]
  clear hW1
  refine (times_any W1 b o cap w.heap.size n F xs HN.out (hx.below hB1 hx.lt) hs1 cx.1 hF1 (by omega)).mono ?_
  rintro e W2 ⟨bz, Z, rfl, hbz, hrow, hzl, hzn, hzg, hB2⟩
  have hB2 : Below w.heap.size w W2 := hB1.trans (hB2.mono hB1.size)
  have hbz1 : w.heap.size ≤ bz := Nat.le_trans hB1.size hbz
  have HZL := Lib.hid hzl
  have HZG := Lib.hid hzg
  have HR := Lib.hid hrow
  clear hs1 hB1 hzl hzg hrow hbz
  go_wp2_with fail
  obtain ⟨W3, hW3⟩ : ∃ W3, W3 = W2.alloc (.cells #[.int .i64 F] 3) := ⟨_, rfl⟩
  have hB3 : Below W2.heap.size W2 W3 := by rw [hW3]; exact (Below.refl _ _).alloc (Nat.le_refl _) _
  have hs3 : Sl W3 W2.heap.size 0 1 [F] := by rw [hW3]; exact one_sl W2 F
  rw [← hW3]
  clear hW3
  refine (times_any W3 ob oy capy W2.heap.size (t + 1) F ys HM.out ((hy.below hB2 hy.lt).below hB3 (Nat.lt_of_lt_of_le hy.lt hB2.size)) hs3 cy.1 hF1 (by omega)).mono ?_
  rintro e W4 ⟨bd, ZD, rfl, hbd, hrowd, hzdl, hzdn, hzdg, hB4⟩
  have hB42 : Below W2.heap.size W2 W4 := hB3.trans (hB4.mono hB3.size)
  have hB : Below w.heap.size w W4 := hB2.trans (hB42.mono hB2.size)
  have hrz : Row W4 bz Z := HR.out.below hB42 HR.out.lt
  have hzd : bz < bd := by have := HR.out.lt; have := hB3.size; omega
  have htr : Num.trimmed ZD = DD := Num.gval_inj (Num.Can.trimmed hzdn) hDc (by rw [Num.gval_trimmed, hzdg, HDg.out])
  have hpre : DD <+: ZD := by rw [← htr]; exact Num.trimmed_prefix ZD
  have hsd : Sl W4 bd 0 (t + 1 + 1) DD := hrowd.prefix hpre (by rw [HDl.out]; omega) (by omega)
  have hsz : Sl W4 bd 0 (t + 1 + 1) ZD := hrowd.sl (by omega) (by omega)
  have HTR := Lib.hid htr
  have HZDL := Lib.hid hzdl
  have HRZ := Lib.hid hrz
  clear htr hpre hzdl hrz hzdg hzdn hrowd hB42 hB4 hB3 hs3 HR hB2
  go_wp2_with fail
  refine (trim_any W4 bd 0 (t + 1 + 1) (t + 1 + 1) ZD HZDL.out hsz).mono ?_
  rintro e W5 ⟨rfl, rfl⟩
  rw [HTR.out, HDl.out]
  have hmk := run_makeInts (n - t) (by omega)
  rw [show ((n - t : Nat) : Int) = (n : Int) - (t + 1) + 1 by omega] at hmk
  clear hsz
  go_wp2_with fail
  obtain ⟨qb, hqb⟩ : ∃ qb, qb = W4.heap.size := ⟨_, rfl⟩
  have hqz : bz < qb := by rw [hqb]; exact HRZ.out.lt
  have hqd : bd < qb := by rw [hqb]; exact hsd.lt
  have hqw : w.heap.size ≤ qb := by rw [hqb]; exact hB.size
  have hdw : w.heap.size ≤ bd := by omega
  have hstart := Num.DivInv.start cx.1 HN.out cy HM.out hnm hF1.1 HDg.out hzn HZL.out HZG.out
  have hQ0 : Row (W4.alloc (zeroRow (n - t))) qb (List.replicate (n - t) 0) := by rw [hqb]; exact Row.made W4 _
  have hZ0 : Row (W4.alloc (zeroRow (n - t))) bz Z := HRZ.out.alloc _
  have hD0 : Sl (W4.alloc (zeroRow (n - t))) bd 0 (t + 1 + 1) DD := hsd.alloc _
  have hB0 : Below w.heap.size w (W4.alloc (zeroRow (n - t))) := hB.alloc hB.size _
  rw [← hqb]
  have HS := Lib.hid (And.intro hstart (And.intro hQ0 (And.intro hZ0 (And.intro hD0 hB0))))
  clear hstart hQ0 hZ0 hD0 hB0 hmk hsd HRZ hqb
  go_loopw [10] (fun iv wr => ∃ (k : Nat) (Z Q : List Int), k ≤ n - t ∧ iv = .int .i64 ((k : Int) - 1) ∧ Num.DivInv (Num.gval xs * F) DD n t k Z Q ∧ Row wr qb Q ∧ Row wr bz Z ∧ Sl wr bd 0 (t + 1 + 1) DD ∧ Below w.heap.size w wr) (fun iv _ => (intOf iv + 1).toNat)
  case atStart => exact ⟨n - t, Z, _, Nat.le_refl _, rfl, HS.out.1, HS.out.2.1, HS.out.2.2.1, HS.out.2.2.2.1, HS.out.2.2.2.2⟩
  case round =>
    clear HS hB
    obtain ⟨k, Z, Q, hk, rfl, hinv, hrq, hrz, hsd, hB⟩ := hrel
    have HI := Lib.hid hinv
    have HRQ := Lib.hid hrq
    have HRZ := Lib.hid hrz
    have HSD := Lib.hid hsd
    have HB := Lib.hid hB
    clear hinv hrq hrz hsd hB
    by_cases h0 : k = 0
    · subst h0
      obtain ⟨rs, hrc, hrg, hrx, hrl⟩ := HI.out.done HDg.out hF1.1
      have htq := HRQ.out.prefix (Num.trimmed_prefix Q) (cap := n - t) (by have := (Num.trimmed_prefix Q).length_le; have := HI.out.qlen; omega) (by omega)
      have hlq := HI.out.qlen
      have hlz := HI.out.zlen
      have hrsl : rs.length ≤ n := by
        by_cases hh : ys.length < rs.length
        · have := Num.gval_lt_of_length cy hrc hh; omega
        · have := HM.out; omega
      have hqsl : (Num.trimmed Q).length ≤ n := by have := (Num.trimmed_prefix Q).length_le; omega
      have HX := Lib.hid (And.intro hrc (And.intro hrg (And.intro hrx (And.intro hrl (And.intro htq (And.intro hlq (And.intro hlz (And.intro hrsl hqsl))))))))
      clear hrc hrg hrx hrl htq hlq hlz hrsl hqsl
      go_wp2_with fail
      refine (trim_any wr qb 0 (n - t) (n - t) Q HX.out.2.2.2.2.2.1 (HRQ.out.sl (by rw [HX.out.2.2.2.2.2.1]; omega) (by omega))).mono ?_
      rintro e W7 ⟨rfl, rfl⟩
      go_wp2_with fail
      refine (shrink_any F wr bz 0 (n + 1) (n + 1) Z rs HX.out.2.2.2.2.2.2.1 (HRZ.out.sl (by rw [HX.out.2.2.2.2.2.2.1]; omega) (by omega)) HI.out.znorm (by omega) HX.out.1 HX.out.2.1 (by omega)).mono ?_
      rintro e W8 ⟨br, rcap, rfl, hsr, hbr, hB8⟩
      go_wp2_with fail
      go_ret2
      exact ⟨Num.trimmed Q, rs, some ⟨qb, 0, none⟩, n - t, br, 0, rcap, rfl, Num.Can.trimmed HI.out.qnorm, HX.out.1, HX.out.2.2.1, HX.out.2.2.2.1, fun _ => ⟨qb, 0, rfl, HX.out.2.2.2.2.1.below hB8 HRQ.out.lt⟩, hsr, by rw [HN.out]; exact HX.out.2.2.2.2.2.2.2.2, by rw [HN.out]; have := HX.out.2.2.2.2.2.2.2.1; omega, HB.out.trans (hB8.mono HB.out.size)⟩
    · obtain ⟨j, rfl⟩ : ∃ j, k = j + 1 := ⟨k - 1, by omega⟩
      rw [show ((j + 1 : Nat) : Int) - 1 = (j : Int) by omega]
      have hzl := HI.out.zlen
      have hql := HI.out.qlen
      have HZl := Lib.hid hzl
      have HQl := Lib.hid hql
      clear hzl hql
      go_wp2_with fail
      rw [show j + (t + 1) + 1 - j = t + 2 by omega]
      refine (reduce_any wr bz j (t + 2) (n + 1 - j) bd 0 (t + 1 + 1) (t + 1) t Z DD rfl rfl HRZ.out HSD.out (by omega) (by have := HZl.out; omega) (by have := HZl.out; omega) HI.out.znorm hDc HDl.out (HI.out.seg_lt (by omega))).mono ?_
      rintro e w2 ⟨q, ws, rfl, hrow2, hwl, hwn, hq, hw, _, hlt2, hg2⟩
      have hstep := HI.out.step (by omega) hDc HDl.out hwl hwn hq hw hlt2
      have hrq2 : Row w2 qb Q := HRQ.out.grown hg2 (by simp; omega)
      have hsd2 : Sl w2 bd 0 (t + 1 + 1) DD := HSD.out.grown hg2 (by simp; omega)
      have hB2 : Below w.heap.size w w2 := below_of_grown HB.out hg2 hbz1
      have hf : w2.frozen? ⟨qb, j, none⟩ = false := hrq2.frozen j
      obtain ⟨v0, hv0⟩ : ∃ v0, w2.cell? ⟨qb, j, none⟩ = some (.int .i64 v0) := ⟨_, hrq2.cell (by have := HQl.out; omega)⟩
      have HST := Lib.hid hstep
      have HRQ2 := Lib.hid hrq2
      have HRZ2 := Lib.hid hrow2
      have HSD2 := Lib.hid hsd2
      have HB2 := Lib.hid hB2
      clear hstep hrq2 hsd2 hB2 hrow2 hg2 hq hw hwl hwn hlt2
      go_wp2_with fail
      go_roundw
      case rel => exact ⟨j, _, _, by omega, rfl, HST.out, HRQ2.out.set _ _, HRZ2.out.setOther (by simp; omega) _, HSD2.out.setOther (by simp; omega) _, HB2.out.setCell (p := ⟨qb, j, none⟩) hqw _⟩
      case measure => simp [intOf]

theorem divide_any (w : World) (b o cap ob oy capy n m : Nat) (xs ys : List Int) (hn : xs.length = n) (hm : ys.length = m) (hx : Sl w b o cap xs) (hy : Sl w ob oy capy ys) (cx : Num.Can xs) (cy : Num.Can ys)
    (h0 : m ≠ 0) (hlim : n ≤ 999999990) :
    Calls Tryz.prog 124 #[.slice (some ⟨b, o, none⟩) n cap, .slice (some ⟨ob, oy, none⟩) m capy] w (Divided w xs ys) := by
  by_cases hlt : Num.gval xs < Num.gval ys
  · exact divide_less w b o cap ob oy capy n m xs ys hn hm hx hy cx cy hlt
  · obtain ⟨t, rfl⟩ : ∃ t, m = t + 1 := ⟨m - 1, by omega⟩
    exact divide_more w b o cap ob oy capy n (t + 1) t xs ys hn hm rfl hx hy cx cy hlt hlim

end Go.Proofs.YtahnkmkmoalbhaaGreatDoor

/- integer.read: the walk. -/
namespace Go.Proofs.YtahnkmkmoalbhaaGreatDoor
open Go.RowKit

/-- the groups of the value of a string -/
def gS (s : ByteArray) : List Int := Num.grps (Num.sdig s.data.toList)
theorem gS_can (s : ByteArray) : Num.Can (gS s) := Num.Can.grps (Num.Plain.sdig _)
theorem gS_val (s : ByteArray) : Num.gval (gS s) = (vS s).natAbs := by
  unfold gS vS; rw [Num.gval_grps, Num.natAbs_val]; rfl

/-- a row while it is filled: the groups ahead of i, v, and zeros -/
def rowAt (G : List Int) (i : Nat) (v : Int) : List Int := G.take i ++ v :: List.replicate (G.length - i - 1) 0

theorem rowAt_zero (G : List Int) (i : Nat) (h : i < G.length) : G.take i ++ List.replicate (G.length - i) 0 = rowAt G i 0 := by
  unfold rowAt
  rw [show G.length - i = G.length - i - 1 + 1 by omega, List.replicate_succ]; rfl
theorem rowAt_length (G : List Int) (i : Nat) (v : Int) (h : i < G.length) : (rowAt G i v).length = G.length := by
  simp [rowAt]; omega
theorem rowAt_set (G : List Int) (i : Nat) (v u : Int) (h : i < G.length) : (rowAt G i v).set i u = rowAt G i u := by
  unfold rowAt
  rw [List.set_append_right _ _ (by simp; omega), show i - (List.take i G).length = 0 by simp; omega]; rfl
theorem rowAt_getD (G : List Int) (i : Nat) (v : Int) (h : i < G.length) : (rowAt G i v).getD i 0 = v := by
  unfold rowAt
  simp only [List.getD_eq_getElem?_getD]
  rw [List.getElem?_append_right (by simp; omega), show i - (List.take i G).length = 0 by simp; omega]; rfl
theorem rowAt_done (G : List Int) (i : Nat) (h : i < G.length) : rowAt G i (G.getD i 0) = G.take (i + 1) ++ List.replicate (G.length - (i + 1)) 0 := by
  unfold rowAt
  rw [List.take_succ_eq_append_getElem h, List.append_assoc]
  simp [List.getD, h, Nat.sub_sub]

/-- the digits from st on, up to j -/
def span (d : List UInt8) (st j : Nat) : List UInt8 := (d.take j).drop st
theorem span_succ {d : List UInt8} {st j : Nat} (h1 : st ≤ j) (h2 : j < d.length) : span d st (j + 1) = span d st j ++ [d[j]] := by
  unfold span
  rw [List.take_succ_eq_append_getElem h2, List.drop_append_of_le_length (by simp; omega)]
theorem span_nil (d : List UInt8) (st : Nat) : span d st st = [] := by
  unfold span; rw [List.drop_of_length_le (by simp; omega)]
theorem span_small {d : List UInt8} (h : d.all Num.isDig = true) {st j : Nat} (hj : j < st + 9) : Num.num (span d st j) < 100000000 := by
  have ha : (span d st j).all Num.isDig = true := by
    rw [List.all_eq_true] at *
    intro c hc
    exact h c (List.mem_of_mem_take (List.mem_of_mem_drop hc))
  have h1 := Num.num_lt _ ha
  have h2 : (span d st j).length ≤ 8 := by simp [span]; omega
  have := Nat.pow_le_pow_right (show 1 ≤ 10 by decide) h2
  omega

/-- what read leaves -/
def ReadPost (w : World) (s : ByteArray) (e : Ending) (w' : World) : Prop :=
  ∃ b cap, e = .returned (.tuple #[.bool (Num.sneg s.data.toList), .slice (some ⟨b, 0, none⟩) (gS s).length cap]) ∧ Sl w' b 0 cap (gS s) ∧ w.heap.size ≤ b ∧ Below w.heap.size w w'

set_option maxRecDepth 100000 in
set_option maxHeartbeats 2000000 in
theorem read_any (s : ByteArray) (w : World) (hs : s.size ≤ 4294967296) :
    Calls Tryz.prog 67 #[.string s] w (ReadPost w s) := by
  have hm := lim_max hs
  obtain ⟨D, hD⟩ : ∃ D : ByteArray, ByteArray.mk (Num.sdig s.data.toList).toArray = D := ⟨_, rfl⟩
  have hDl : D.data.toList = Num.sdig s.data.toList := by rw [← hD]
  have hdl : D.size ≤ 4294967296 := by
    have := Num.sdig_length s.data.toList
    rw [← hDl, size_toList, size_toList] at this; omega
  have hall : D.data.toList.all Num.isDig = true := by rw [hDl]; exact (Num.Plain.sdig _).1
  have hG : gS s = Num.grps D.data.toList := by unfold gS; rw [hDl]
  have hGl : (gS s).length = (D.size + 8) / 9 := by rw [hG, Num.grps_length, size_toList]
  obtain ⟨K, hK⟩ : ∃ K, K = (D.size + 8) / 9 := ⟨_, rfl⟩
  have hmk := run_makeInts K (by omega)
  rw [show (K : Int) = ((D.size : Int) + 9 - 1) / 9 by omega] at hmk
  have hKb : K ≤ 4294967296 ∧ K * 9 ≤ D.size + 8 := by omega
  obtain ⟨G, hGG⟩ : ∃ G, G = gS s := ⟨_, rfl⟩
  have HGG := Lib.hid hGG
  have HG := Lib.hid hG
  have HGl := Lib.hid hGl
  have HK := Lib.hid hK
  have HA := Lib.hid hall
  clear hDl hall hG hGl hK hGG
  go_enter Tryz.func67, Tryz.ntmps67
  go_wp2_with fail
  refine (split_any s _ hm).mono ?_
  rintro e w1 ⟨rfl, rfl⟩
  rw [hD]
  clear hD
  go_wp2_with fail
  have hGK : G.length = K := by rw [HGG.out, HGl.out, HK.out]
  have hst : Row (w.alloc (zeroRow K)) w.heap.size (G.take 0 ++ List.replicate (G.length - 0) 0) := by rw [hGK]; simpa using Row.made w K
  have HS := Lib.hid hst
  have HGK := Lib.hid hGK
  clear hst hGK hmk
  go_loopw [23] (fun iv wr => ∃ i : Nat, i ≤ K ∧ iv = .int .i64 i ∧ Row wr w.heap.size (G.take i ++ List.replicate (G.length - i) 0) ∧ Below w.heap.size w wr) (fun iv _ => K - (intOf iv).toNat)
  case atStart => exact ⟨0, Nat.zero_le _, rfl, HS.out, (Below.refl _ _).alloc (Nat.le_refl _) _⟩
  case round =>
    clear HS
    obtain ⟨i, hi, rfl, hrow, hB⟩ := hrel
    have HR := Lib.hid hrow
    have HB := Lib.hid hB
    clear hrow hB
    obtain ⟨wo, hwo⟩ : ∃ wo, wo = wr := ⟨_, rfl⟩
    by_cases hlt : i < K
    · obtain ⟨en, hen⟩ : ∃ en, en = D.size - 9 * i := ⟨_, rfl⟩
      obtain ⟨st, hst⟩ : ∃ st, st = D.size - 9 * (i + 1) := ⟨_, rfl⟩
      have hse : st ≤ en ∧ en ≤ st + 9 ∧ en ≤ D.size ∧ (en : Int) = (D.size : Int) - (i : Int) * 9 ∧ (st : Int) = max 0 ((D.size : Int) - (i : Int) * 9 - 9) := by omega
      have HE := Lib.hid hse
      have hse1 : st ≤ en ∧ en ≤ st + 9 ∧ en ≤ D.size := ⟨hse.1, hse.2.1, hse.2.2.1⟩
      have HEN := Lib.hid (And.intro hen hst)
      clear hen hst hse
      have hr0 : Row wr w.heap.size (rowAt G i (Num.num (span D.data.toList st st))) := by
        rw [span_nil]; have := HR.out; rw [rowAt_zero _ _ (by have := HGK.out; omega)] at this; exact this
      have HR0 := Lib.hid hr0
      clear hr0
      go_wp2_with fail
      go_loopw [9] (fun jv wq => ∃ j : Nat, st ≤ j ∧ j ≤ en ∧ jv = .int .i64 j ∧ Row wq w.heap.size (rowAt G i (Num.num (span D.data.toList st j))) ∧ Below w.heap.size w wq) (fun jv _ => en - (intOf jv).toNat)
      case atStart => exact ⟨st, Nat.le_refl _, hse1.1, by rw [HE.out.2.2.2.2], HR0.out, HB.out⟩
      case round =>
        clear HR0 HB HR
        obtain ⟨j, hj0, hj1, rfl, hrow, hB⟩ := hrel
        have hen := HE.out.2.2.2.1
        by_cases hj : j < en
        · have hjl : (j : Int) < (D.size : Int) - (i : Int) * 9 := by omega
          have hjD : j < D.size := by omega
          have hjD' : j < D.data.toList.length := by rw [size_toList]; exact hjD
          have hdig := (Num.isDig_iff (D.data.toList[j]'hjD')).1 (List.all_eq_true.1 HA.out _ (List.getElem_mem hjD'))
          have hby := byte_at D j hjD hjD'
          have hspan := span_succ (d := D.data.toList) hj0 hjD'
          have hcb : (48 : Int) ≤ ((D[j]'hjD).toNat : Int) ∧ ((D[j]'hjD).toNat : Int) ≤ 57 := by rw [← hby]; omega
          obtain ⟨v, hv⟩ : ∃ v : Int, v = (Num.num (span D.data.toList st j) : Int) := ⟨_, rfl⟩
          have hvb : 0 ≤ v ∧ v < 100000000 := by have := span_small HA.out (st := st) (j := j) (by omega); omega
          have hnext : ((Num.num (span D.data.toList st (j + 1)) : Nat) : Int) = v * 10 + (((D[j]'hjD).toNat : Int) - 48) := by
            rw [hspan, Num.num_snoc, hby, hv]; unfold Num.dv; omega
          have hf : wr.frozen? ⟨w.heap.size, i, none⟩ = false := hrow.frozen i
          have hc : wr.cell? ⟨w.heap.size, i, none⟩ = some (.int .i64 v) := by
            rw [hrow.cell (by rw [rowAt_length _ _ _ (by have := HGK.out; omega)]; have := HGK.out; omega), rowAt_getD _ _ _ (by have := HGK.out; omega), hv]
          have HR := Lib.hid hrow
          have HB := Lib.hid hB
          have HN := Lib.hid hnext
          clear hrow hB hnext hspan hby hdig hjD' hv hen
          go_wp2_with fail
          go_region
          go_wp2_with fail
          go_roundw
          case rel => exact ⟨j + 1, by omega, by omega, by go_num, by rw [HN.out, ← rowAt_set _ _ _ _ (by have := HGK.out; omega)]; exact HR.out.set _ _, (HB.out.setCell (p := ⟨w.heap.size, i, none⟩) (Nat.le_refl _) _).drew⟩
          case measure => simp [intOf]; omega
        · have hjl : ¬ (j : Int) < (D.size : Int) - (i : Int) * 9 := by omega
          have he : j = en := by omega
          have hrow2 : Row wr w.heap.size (G.take (i + 1) ++ List.replicate (G.length - (i + 1)) 0) := by
            rw [← rowAt_done _ _ (by have := HGK.out; omega)]
            have e : (Num.num (span D.data.toList st j) : Int) = G.getD i 0 := by
              have h1 := HEN.out
              rw [HGG.out, HG.out, he]
              have h2 : Num.grps D.data.toList = (List.range K).map fun i => (Num.num (Num.seg D.data.toList i) : Int) := by
                unfold Num.grps; rw [size_toList, HK.out]
              rw [h2]
              simp only [List.getD_eq_getElem?_getD]
              rw [List.getElem?_map, List.getElem?_range hlt]
              simp only [Option.map_some, Option.getD_some]
              unfold Num.seg span
              rw [size_toList, h1.1, h1.2]
            rw [← e]; exact hrow
          have HR := Lib.hid hrow2
          have HB := Lib.hid hB
          clear hrow hrow2 hB he hen
          go_wp2_with fail
          go_roundw
          case rel => exact ⟨i + 1, by omega, by go_num, HR.out, HB.out⟩
          case measure => simp [intOf]; omega
    · obtain rfl : i = K := by omega
      go_wp2_with fail
      go_ret2
      have hr := HR.out
      rw [List.take_of_length_le (by have := HGK.out; omega), show G.length - i = 0 by have := HGK.out; omega] at hr
      simp only [List.replicate_zero, List.append_nil] at hr
      refine ⟨w.heap.size, i, ?_, ?_, Nat.le_refl _, HB.out⟩
      · rw [HGl.out, ← HK.out]; rfl
      · rw [← HGG.out]; exact hr.sl (by have := HGK.out; omega) (by omega)
end Go.Proofs.YtahnkmkmoalbhaaGreatDoor
