/- The reference implementation of layer 1: read: the walk. -/
import Derived.Test.YtldohkfomdcpoaaGreatDoorRefI
import Derived.Test.YtldohkfomdcpoaaGreatDoorRefC
import Derived.Test.YtldohkfomdcpoaaGreatDoorRead
namespace Go.Proofs.YtldohkfomdcpoaaGreatDoor
open Go.RowKit

/-- a struct number lies in block b -/
def NumAt (w : World) (b : Nat) (ng : Bool) (v : Value) : Prop := w.heap[b]? = some (.cells #[.bool ng, v] 82 (0, 0))
theorem NumAt.cells {w : World} {b : Nat} {ng : Bool} {v : Value} (h : NumAt w b ng v) : w.cell? ⟨b, 0, none⟩ = some (.bool ng) ∧ w.cell? ⟨b, 1, none⟩ = some v ∧ w.frozen? ⟨b, 0, none⟩ = false ∧ w.frozen? ⟨b, 1, none⟩ = false := by
  unfold NumAt at h
  exact ⟨by rw [cell_of_row w b 0 _ _ _ h]; rfl, by rw [cell_of_row w b 1 _ _ _ h]; rfl, frozen_of_row w b 0 _ _ h, frozen_of_row w b 1 _ _ h⟩
theorem NumAt.below {B : Nat} {w w' : World} {b : Nat} {ng : Bool} {v : Value} (h : NumAt w b ng v) (hb : Below B w w') (hlt : b < B) : NumAt w' b ng v := by
  unfold NumAt at *; rw [hb.block b hlt]; exact h
theorem NumAt.set {w : World} {b : Nat} {ng : Bool} {v : Value} (h : NumAt w b ng v) (u : Value) : NumAt (w.setCell ⟨b, 1, none⟩ u) b ng u := by
  have := heap_setCell_same w b 1 _ _ u h
  unfold NumAt; rw [this]; rfl
theorem NumAt.set0 {w : World} {b : Nat} {ng : Bool} {v : Value} (h : NumAt w b ng v) (u : Bool) : NumAt (w.setCell ⟨b, 0, none⟩ (.bool u)) b u v := by
  have := heap_setCell_same w b 0 _ _ (.bool u) h
  unfold NumAt; rw [this]; rfl
theorem NumAt.setOther {w : World} {b : Nat} {ng : Bool} {v : Value} (h : NumAt w b ng v) {a : Addr} (hne : b ≠ a.block) (u : Value) : NumAt (w.setCell a u) b ng v := by
  unfold NumAt at *; rw [Below.heap_setCell w a u b hne]; exact h
theorem Own.setOther {w : World} {base : Nat} {v : Value} {l : List Int} (h : Own w base v l) {b i : Nat} (hb : b < base) (u : Value) : Own (w.setCell ⟨b, i, none⟩ u) base v l := by
  refine World.ownsRow.kept h (grown_set (grown_refl w (some b))) ?_
  cases hv : v.ownBlock with
  | none => exact .inl rfl
  | some k => exact .inr (by have := (World.ownsRow.lt h k hv).1; intro e; injection e with e; omega)

/-- i groups are read -/
structure ReadRel (w : World) (ng : Bool) (G : List Int) (i : Nat) (v : Value) (wr : World) : Prop where
  res : NumAt wr w.heap.size false (.slice none 0 0)
  out : NumAt wr (w.heap.size + 1) ng v
  own : Own wr (w.heap.size + 2) v (G.take i)
  below : Below w.heap.size w wr
  size : w.heap.size + 2 ≤ wr.heap.size

theorem ReadRel.start (w : World) (ng : Bool) (G : List Int) : ReadRel w ng G 0 (.slice none 0 0) ((w.alloc (.cells #[.bool false, .slice none 0 0] 82)).alloc (.cells #[.bool ng, .slice none 0 0] 82)) := by
  have h1 : NumAt (w.alloc (.cells #[.bool false, .slice none 0 0] 82)) w.heap.size false (.slice none 0 0) := heap_alloc_new w _
  have h2 : NumAt ((w.alloc (.cells #[.bool false, .slice none 0 0] 82)).alloc (.cells #[.bool ng, .slice none 0 0] 82)) (w.heap.size + 1) ng (.slice none 0 0) := by
    have := heap_alloc_new (w.alloc (.cells #[.bool false, .slice none 0 0] 82)) (.cells #[.bool ng, .slice none 0 0] 82)
    simpa [NumAt] using this
  refine ⟨?_, h2, Own.nil _ _, ((Below.refl _ _).alloc (Nat.le_refl _) _).alloc (by simp) _, by simp⟩
  exact h1.below ((Below.refl _ _).alloc (Nat.le_refl _) _) (by simp)

theorem ReadRel.step {w wr W1 : World} {ng : Bool} {G : List Int} {i : Nat} {v v1 : Value} {x : Int} (h : ReadRel w ng G i v wr) (hi : i < G.length) (hx : x = G.getD i 0)
    (hO : Own W1 (w.heap.size + 2) v1 (G.take i ++ [x])) (hB : Below (w.heap.size + 2) wr W1) : ReadRel w ng G (i + 1) v1 (W1.setCell ⟨w.heap.size + 1, 1, none⟩ v1) := by
  have h1 := h.res.below hB (by omega)
  have h2 := h.out.below hB (by omega)
  refine ⟨h1.setOther (a := ⟨w.heap.size + 1, 1, none⟩) (by simp) _, h2.set _, ?_, ?_, ?_⟩
  · rw [take_succ_getD hi, ← hx]
    exact hO.setOther (by omega) _
  · exact (h.below.trans (hB.mono (by omega))).setCell (p := ⟨w.heap.size + 1, 1, none⟩) (by simp) _
  · have := hB.size; simp [World.setCell]; have := h.size; omega

/-- what read leaves -/
def RReadPost (w : World) (s : ByteArray) (e : Ending) (w' : World) : Prop :=
  ∃ xa cap, e = .returned (.agg #[.bool (Num.sneg s.data.toList), .slice xa (gS s).length cap]) ∧ Rd w' xa cap (gS s) ∧ Below w.heap.size w w'

set_option maxRecDepth 100000 in
set_option maxHeartbeats 2000000 in
theorem rRead_any (s : ByteArray) (w : World) (hs : s.size ≤ 1000) :
    Calls Tryz.prog 77 #[.string s] w (RReadPost w s) := by
  have hm := lim_max (show s.size ≤ 4294967296 by omega)
  obtain ⟨D, hD, hDl, hall, hDs⟩ := dig_str s
  obtain ⟨ng, hng⟩ : ∃ ng, Num.sneg s.data.toList = ng := ⟨_, rfl⟩
  have hG : gS s = Num.grps D.data.toList := by unfold gS; rw [hDl]
  obtain ⟨G, hGG⟩ : ∃ G, G = gS s := ⟨_, rfl⟩
  obtain ⟨K, hK⟩ : ∃ K, K = (D.size + 8) / 9 := ⟨_, rfl⟩
  have hGl : G.length = K := by rw [hGG, hG, Num.grps_length, size_toList, hK]
  have hKb : K ≤ 1000 ∧ K * 9 ≤ D.size + 8 ∧ D.size ≤ K * 9 := by omega
  have hDb : D.size ≤ 1000 := by omega
  have HD := Lib.hid hD
  have HNG := Lib.hid hng
  have HG := Lib.hid hG
  have HGG := Lib.hid hGG
  have HGL := Lib.hid hGl
  have HA := Lib.hid hall
  have HK := Lib.hid hK
  have HST := Lib.hid (ReadRel.start w ng G)
  clear hD hng hDl hall hG hGG hGl hK
  go_enter Tryz.func77, Tryz.ntmps77
  go_wp2_with fail
  refine (digits_any s _ hm).mono ?_
  rintro e w' ⟨rfl, rfl⟩
  rw [← HD.out, HNG.out]
  go_wp2_with fail
  go_loopw [6] (fun tv wr => ∃ (i : Nat) (t : Int) (v : Value), i ≤ K ∧ tv = .int .i64 t ∧ t = (D.size : Int) - 9 * i ∧ ReadRel w ng G i v wr) (fun tv _ => (intOf tv).toNat)
  case atStart => exact ⟨0, _, _, by omega, rfl, by omega, HST.out⟩
  case round =>
    clear HST
    obtain ⟨i, t, v, hi, rfl, ht, hr⟩ := hrel
    have hz := hr.size
    have hc := hr.out.cells
    have hcv := hc.2.1
    have hfv := hc.2.2.2
    have hc2 := hr.res.cells
    have hcr0 := hc2.1
    have hcr1 := hc2.2.1
    have hfr0 := hc2.2.2.1
    have hfr1 := hc2.2.2.2
    have hcn := hc.1
    have HR := Lib.hid hr
    clear hr hc hc2
    by_cases hlt : i < K
    · have ht0 : 0 < t := by omega
      obtain ⟨st, hst⟩ : ∃ st, st = D.size - 9 * (i + 1) := ⟨_, rfl⟩
      have hse : (st : Int) = max 0 (t - 9) := by omega
      have hse1 : (st : Int) ≤ t ∧ t ≤ st + 9 ∧ t ≤ D.size := by omega
      have HE := Lib.hid hse
      have HSTT := Lib.hid hst
      have HT := Lib.hid ht
      clear hse hst ht
      go_wp2_with fail
      go_loop [7, 8] (fun nv jv => ∃ j : Nat, st ≤ j ∧ (j : Int) ≤ t ∧ jv = .int .i64 j ∧ nv = .int .i64 (Num.num (span D.data.toList st j) : Nat)) (fun _ jv => (t - intOf jv).toNat)
      case atStart => exact ⟨st, Nat.le_refl _, hse1.1, by rw [HE.out], by rw [span_nil]; rfl⟩
      case round =>
        obtain ⟨j, hj0, hj1, rfl, rfl⟩ := hrel
        obtain ⟨x, hxx⟩ : ∃ x, x = Num.num (span D.data.toList st j) := ⟨_, rfl⟩
        rw [← hxx]
        by_cases hj : (j : Int) < t
        · have hjD : j < D.size := by omega
          have hjD' : j < D.data.toList.length := by rw [size_toList]; exact hjD
          have hdig := dig_at hjD HA.out
          have hspan := span_succ (d := D.data.toList) hj0 hjD'
          have hby := byte_at D j hjD hjD'
          have hxb : x < 100000000 := by rw [hxx]; exact span_small HA.out (by omega)
          have hnext : ((Num.num (span D.data.toList st (j + 1)) : Nat) : Int) = 10 * (x : Int) + (((D[j]'hjD).toNat : Int) - 48) := by
            rw [hspan, Num.num_snoc, hby, hxx]; unfold Num.dv; omega
          have hd1 : (48 : Int) ≤ ((D[j]'hjD).toNat : Int) := by omega
          have hd2 : ((D[j]'hjD).toNat : Int) ≤ 57 := by omega
          have HN := Lib.hid hnext
          clear hdig hspan hby hnext hjD' hxx
          go_wp2_with fail
          go_round
          case rel => exact ⟨j + 1, by omega, by omega, by go_num, by rw [HN.out]⟩
          case measure => simp [intOf]; omega
        · have he : (j : Int) = t := by omega
          have hxG : (x : Int) = G.getD i 0 := by
            rw [hxx, HGG.out, HG.out]
            have h2 : Num.grps D.data.toList = (List.range K).map fun i => (Num.num (Num.seg D.data.toList i) : Int) := by
              unfold Num.grps; rw [size_toList, HK.out]
            rw [h2]
            simp only [List.getD_eq_getElem?_getD]
            rw [List.getElem?_map, List.getElem?_range hlt]
            simp only [Option.map_some, Option.getD_some]
            unfold Num.seg span
            rw [size_toList, HSTT.out, show j = D.size - 9 * i by have := HT.out; omega]
          obtain ⟨X, hX⟩ : ∃ X : Int, X = (x : Int) := ⟨_, rfl⟩
          rw [← hX] at hxG ⊢
          have hO := HR.out.own.alloc (.cells #[.int .i64 X] 3)
          have hB := (Below.refl wr.heap.size wr).alloc (Nat.le_refl _) (.cells #[.int .i64 X] 3)
          have hBq : w.heap.size + 2 ≤ (wr.alloc (.cells #[.int .i64 X] 3)).heap.size := Nat.le_trans hz hB.size
          have HO := Lib.hid hO
          have HB := Lib.hid (hB.mono hz)
          have HBQ := Lib.hid hBq
          have HXG := Lib.hid hxG
          have hlen : (G.take i).length + 1 ≤ 10000000 := by have := List.length_take_le i G; omega
          have HLEN := Lib.hid hlen
          clear hO hB hBq hxG hX hxx he hlen
          have hlen2 : (G.take i ++ [X]).length = i + 1 := by rw [List.length_append, List.length_take]; have := HGL.out; simp; omega
          have hlen3 : (G.take i ++ [X]).length ≤ 1000000 := by omega
          have HLEN2 := Lib.hid hlen2
          have HLEN3 := Lib.hid hlen3
          clear hlen2 hlen3
          go_wp2_with (at_builtin; refine wp_addInt rfl _ _ rfl (w.heap.size + 2) _ _ rfl HO.out X wr.heap.size (by simp) rfl HLEN.out HBQ.out ?_; intro v1 W1 hO1 hB1; obtain ⟨va, vc, hv1, _⟩ := hO1.rd HLEN3.out; rw [HLEN2.out] at hv1; subst hv1; have HO1 := Lib.hid hO1; have HB1 := Lib.hid (HB.out.trans hB1); obtain ⟨hca, hcb, hcc, hcd⟩ := (HR.out.out.below HB1.out (Nat.lt_succ_self _)).cells; clear hO1 hB1)
          have hst2 := HR.out.step (by have := HGL.out; omega) HXG.out HO1.out HB1.out
          have HS2 := Lib.hid hst2
          clear hst2
          go_roundw
          case rel => exact ⟨i + 1, t - 9, _, by omega, rfl, by have := HT.out; omega, HS2.out⟩
          case measure => simp [intOf]; omega
    · have ht0 : ¬ 0 < t := by omega
      have hi2 : i = K := by omega
      obtain ⟨va, vc, hv, hrd⟩ := HR.out.own.rd (by have := List.length_take_le i G; omega)
      have hGi : G.take i = gS s := by rw [← HGG.out, List.take_of_length_le (by have := HGL.out; omega)]
      rw [hGi] at hv hrd
      subst hv
      have hrd2 := hrd
      have hBl := HR.out.below
      have HRD := Lib.hid hrd
      have HBL := Lib.hid hBl
      have HGi := Lib.hid hGi
      clear hGi hi2 hrd hBl hrd2 ht
      go_wp2_with fail
      have hN0 := (HR.out.res.set0 ng).set (.slice va (gS s).length vc)
      have hBf := (HBL.out.setCell (p := ⟨w.heap.size, 0, none⟩) (Nat.le_refl _) (.bool ng)).setCell (p := ⟨w.heap.size, 1, none⟩) (Nat.le_refl _) (.slice va (gS s).length vc)
      obtain ⟨va', vc', hv', hrd'⟩ := ((HR.out.own.setOther (b := w.heap.size) (i := 0) (by omega) (.bool ng)).setOther (b := w.heap.size) (i := 1) (by omega) (.slice va (gS s).length vc)).rd (by have := List.length_take_le i G; omega)
      rw [HGi.out] at hv' hrd'
      injection hv' with e1 e2 e3
      subst e1
      subst e3
      obtain ⟨Wf, hWf⟩ : ∃ Wf, Wf = (wr.setCell ⟨w.heap.size, 0, none⟩ (.bool ng)).setCell ⟨w.heap.size, 1, none⟩ (.slice va (gS s).length vc) := ⟨_, rfl⟩
      rw [← hWf] at hN0 hBf hrd' ⊢
      obtain ⟨k0, k1, _, _⟩ := hN0.cells
      exact bodyPost_ret (v := .agg #[.bool ng, .slice va (gS s).length vc]) (by simp [results, Tryz.results77, go_sem, k0, k1]) rfl ⟨va, vc, by rw [HNG.out], hrd', hBf⟩

end Go.Proofs.YtldohkfomdcpoaaGreatDoor
