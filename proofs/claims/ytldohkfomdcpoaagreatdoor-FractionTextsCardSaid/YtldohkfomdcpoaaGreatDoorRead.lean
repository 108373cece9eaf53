/- integer.read: the walk. -/
import Derived.Test.YtldohkfomdcpoaaGreatDoorDivide
namespace Go.Proofs.YtldohkfomdcpoaaGreatDoor
open Go.RowKit

/-- the groups of the value of a string -/
def gS (s : ByteArray) : List Int := Num.grps (Num.sdig s.data.toList)
theorem gS_can (s : ByteArray) : Num.Can (gS s) := Num.Can.grps (Num.Plain.sdig _)
theorem gS_val (s : ByteArray) : Num.gval (gS s) = (vS s).natAbs := by
  unfold gS vS; rw [Num.gval_grps, Num.natAbs_val]; rfl

/-- a row while it is filled: the groups ahead of i, v, and zeros -/
def rowAt (G : List Int) (i : Nat) (v : Int) : List Int := G.take i ++ v :: List.replicate (G.length - i - 1) 0

theorem rowAt_zero (G : List Int) (i : Nat) (h : i < G.length) : G.take i ++ List.replicate (G.length - i) 0 = rowAt G i 0 := by
  unfold rowAt
  rw [show G.length - i = G.length - i - 1 + 1 by omega, List.replicate_succ]; rfl
theorem rowAt_length (G : List Int) (i : Nat) (v : Int) (h : i < G.length) : (rowAt G i v).length = G.length := by
  simp [rowAt]; omega
theorem rowAt_set (G : List Int) (i : Nat) (v u : Int) (h : i < G.length) : (rowAt G i v).set i u = rowAt G i u := by
  unfold rowAt
  rw [List.set_append_right _ _ (by simp; omega), show i - (List.take i G).length = 0 by simp; omega]; rfl
theorem rowAt_getD (G : List Int) (i : Nat) (v : Int) (h : i < G.length) : (rowAt G i v).getD i 0 = v := by
  unfold rowAt
  simp only [List.getD_eq_getElem?_getD]
  rw [List.getElem?_append_right (by simp; omega), show i - (List.take i G).length = 0 by simp; omega]; rfl
theorem rowAt_done (G : List Int) (i : Nat) (h : i < G.length) : rowAt G i (G.getD i 0) = G.take (i + 1) ++ List.replicate (G.length - (i + 1)) 0 := by
  unfold rowAt
  rw [List.take_succ_eq_append_getElem h, List.append_assoc]
  simp [List.getD, h, Nat.sub_sub]

/-- the digits from st on, up to j -/
def span (d : List UInt8) (st j : Nat) : List UInt8 := (d.take j).drop st
theorem span_succ {d : List UInt8} {st j : Nat} (h1 : st ≤ j) (h2 : j < d.length) : span d st (j + 1) = span d st j ++ [d[j]] := by
  unfold span
  rw [List.take_succ_eq_append_getElem h2, List.drop_append_of_le_length (by simp; omega)]
theorem span_nil (d : List UInt8) (st : Nat) : span d st st = [] := by
  unfold span; rw [List.drop_of_length_le (by simp; omega)]
theorem span_small {d : List UInt8} (h : d.all Num.isDig = true) {st j : Nat} (hj : j < st + 9) : Num.num (span d st j) < 100000000 := by
  have ha : (span d st j).all Num.isDig = true := by
    rw [List.all_eq_true] at *
    intro c hc
    exact h c (List.mem_of_mem_take (List.mem_of_mem_drop hc))
  have h1 := Num.num_lt _ ha
  have h2 : (span d st j).length ≤ 8 := by simp [span]; omega
  have := Nat.pow_le_pow_right (show 1 ≤ 10 by decide) h2
  omega

/-- what read leaves -/
def ReadPost (w : World) (s : ByteArray) (e : Ending) (w' : World) : Prop :=
  ∃ b cap, e = .returned (.tuple #[.bool (Num.sneg s.data.toList), .slice (some ⟨b, 0, none⟩) (gS s).length cap]) ∧ Sl w' b 0 cap (gS s) ∧ w.heap.size ≤ b ∧ Below w.heap.size w w'

set_option maxRecDepth 100000 in
set_option maxHeartbeats 2000000 in
theorem read_any (s : ByteArray) (w : World) (hs : s.size ≤ 4294967296) :
    Calls Tryz.prog 80 #[.string s] w (ReadPost w s) := by
  have hm := lim_max hs
  obtain ⟨D, hD⟩ : ∃ D : ByteArray, ByteArray.mk (Num.sdig s.data.toList).toArray = D := ⟨_, rfl⟩
  have hDl : D.data.toList = Num.sdig s.data.toList := by rw [← hD]
  have hdl : D.size ≤ 4294967296 := by
    have := Num.sdig_length s.data.toList
    rw [← hDl, size_toList, size_toList] at this; omega
  have hall : D.data.toList.all Num.isDig = true := by rw [hDl]; exact (Num.Plain.sdig _).1
  have hG : gS s = Num.grps D.data.toList := by unfold gS; rw [hDl]
  have hGl : (gS s).length = (D.size + 8) / 9 := by rw [hG, Num.grps_length, size_toList]
  obtain ⟨K, hK⟩ : ∃ K, K = (D.size + 8) / 9 := ⟨_, rfl⟩
  have hmk := run_makeInts K (by omega)
  rw [show (K : Int) = ((D.size : Int) + 9 - 1) / 9 by omega] at hmk
  have hKb : K ≤ 4294967296 ∧ K * 9 ≤ D.size + 8 := by omega
  obtain ⟨G, hGG⟩ : ∃ G, G = gS s := ⟨_, rfl⟩
  have HGG := Lib.hid hGG
  have HG := Lib.hid hG
  have HGl := Lib.hid hGl
  have HK := Lib.hid hK
  have HA := Lib.hid hall
  clear hDl hall hG hGl hK hGG
  go_enter Tryz.func80, Tryz.ntmps80
  go_wp2_with fail
  refine (split_any s _ hm).mono ?_
  rintro e w1 ⟨rfl, rfl⟩
  rw [hD]
  clear hD
  go_wp2_with fail
  have hGK : G.length = K := by rw [HGG.out, HGl.out, HK.out]
  have hst : Row (w.alloc (zeroRow K)) w.heap.size (G.take 0 ++ List.replicate (G.length - 0) 0) := by rw [hGK]; simpa using Row.made w K
  have HS := Lib.hid hst
  have HGK := Lib.hid hGK
  clear hst hGK hmk
  go_loopw [23] (fun iv wr => ∃ i : Nat, i ≤ K ∧ iv = .int .i64 i ∧ Row wr w.heap.size (G.take i ++ List.replicate (G.length - i) 0) ∧ Below w.heap.size w wr) (fun iv _ => K - (intOf iv).toNat)
  case atStart => exact ⟨0, Nat.zero_le _, rfl, HS.out, (Below.refl _ _).alloc (Nat.le_refl _) _⟩
  case round =>
    clear HS
    obtain ⟨i, hi, rfl, hrow, hB⟩ := hrel
    have HR := Lib.hid hrow
    have HB := Lib.hid hB
    clear hrow hB
    obtain ⟨wo, hwo⟩ : ∃ wo, wo = wr := ⟨_, rfl⟩
    by_cases hlt : i < K
    · obtain ⟨en, hen⟩ : ∃ en, en = D.size - 9 * i := ⟨_, rfl⟩
      obtain ⟨st, hst⟩ : ∃ st, st = D.size - 9 * (i + 1) := ⟨_, rfl⟩
      have hse : st ≤ en ∧ en ≤ st + 9 ∧ en ≤ D.size ∧ (en : Int) = (D.size : Int) - (i : Int) * 9 ∧ (st : Int) = max 0 ((D.size : Int) - (i : Int) * 9 - 9) := by omega
      have HE := Lib.hid hse
      have hse1 : st ≤ en ∧ en ≤ st + 9 ∧ en ≤ D.size := ⟨hse.1, hse.2.1, hse.2.2.1⟩
      have HEN := Lib.hid (And.intro hen hst)
      clear hen hst hse
      have hr0 : Row wr w.heap.size (rowAt G i (Num.num (span D.data.toList st st))) := by
        rw [span_nil]; have := HR.out; rw [rowAt_zero _ _ (by have := HGK.out; omega)] at this; exact this
      have HR0 := Lib.hid hr0
      clear hr0
      go_wp2_with fail
      go_loopw [9] (fun jv wq => ∃ j : Nat, st ≤ j ∧ j ≤ en ∧ jv = .int .i64 j ∧ Row wq w.heap.size (rowAt G i (Num.num (span D.data.toList st j))) ∧ Below w.heap.size w wq) (fun jv _ => en - (intOf jv).toNat)
      case atStart => exact ⟨st, Nat.le_refl _, hse1.1, by rw [HE.out.2.2.2.2], HR0.out, HB.out⟩
      case round =>
        clear HR0 HB HR
        obtain ⟨j, hj0, hj1, rfl, hrow, hB⟩ := hrel
        have hen := HE.out.2.2.2.1
        by_cases hj : j < en
        · have hjl : (j : Int) < (D.size : Int) - (i : Int) * 9 := by omega
          have hjD : j < D.size := by omega
          have hjD' : j < D.data.toList.length := by rw [size_toList]; exact hjD
          have hdig := (Num.isDig_iff (D.data.toList[j]'hjD')).1 (List.all_eq_true.1 HA.out _ (List.getElem_mem hjD'))
          have hby := byte_at D j hjD hjD'
          have hspan := span_succ (d := D.data.toList) hj0 hjD'
          have hcb : (48 : Int) ≤ ((D[j]'hjD).toNat : Int) ∧ ((D[j]'hjD).toNat : Int) ≤ 57 := by rw [← hby]; omega
          obtain ⟨v, hv⟩ : ∃ v : Int, v = (Num.num (span D.data.toList st j) : Int) := ⟨_, rfl⟩
          have hvb : 0 ≤ v ∧ v < 100000000 := by have := span_small HA.out (st := st) (j := j) (by omega); omega
          have hnext : ((Num.num (span D.data.toList st (j + 1)) : Nat) : Int) = v * 10 + (((D[j]'hjD).toNat : Int) - 48) := by
            rw [hspan, Num.num_snoc, hby, hv]; unfold Num.dv; omega
          have hf : wr.frozen? ⟨w.heap.size, i, none⟩ = false := hrow.frozen i
          have hc : wr.cell? ⟨w.heap.size, i, none⟩ = some (.int .i64 v) := by
            rw [hrow.cell (by rw [rowAt_length _ _ _ (by have := HGK.out; omega)]; have := HGK.out; omega), rowAt_getD _ _ _ (by have := HGK.out; omega), hv]
          have HR := Lib.hid hrow
          have HB := Lib.hid hB
          have HN := Lib.hid hnext
          clear hrow hB hnext hspan hby hdig hjD' hv hen
          go_wp2_with fail
          go_region
          go_wp2_with fail
          go_roundw
          case rel => exact ⟨j + 1, by omega, by omega, by go_num, by rw [HN.out, ← rowAt_set _ _ _ _ (by have := HGK.out; omega)]; exact HR.out.set _ _, (HB.out.setCell (p := ⟨w.heap.size, i, none⟩) (Nat.le_refl _) _).drew⟩
          case measure => simp [intOf]; omega
        · have hjl : ¬ (j : Int) < (D.size : Int) - (i : Int) * 9 := by omega
          have he : j = en := by omega
          have hrow2 : Row wr w.heap.size (G.take (i + 1) ++ List.replicate (G.length - (i + 1)) 0) := by
            rw [← rowAt_done _ _ (by have := HGK.out; omega)]
            have e : (Num.num (span D.data.toList st j) : Int) = G.getD i 0 := by
              have h1 := HEN.out
              rw [HGG.out, HG.out, he]
              have h2 : Num.grps D.data.toList = (List.range K).map fun i => (Num.num (Num.seg D.data.toList i) : Int) := by
                unfold Num.grps; rw [size_toList, HK.out]
              rw [h2]
              simp only [List.getD_eq_getElem?_getD]
              rw [List.getElem?_map, List.getElem?_range hlt]
              simp only [Option.map_some, Option.getD_some]
              unfold Num.seg span
              rw [size_toList, h1.1, h1.2]
            rw [← e]; exact hrow
          have HR := Lib.hid hrow2
          have HB := Lib.hid hB
          clear hrow hrow2 hB he hen
          go_wp2_with fail
          go_roundw
          case rel => exact ⟨i + 1, by omega, by go_num, HR.out, HB.out⟩
          case measure => simp [intOf]; omega
    · obtain rfl : i = K := by omega
      go_wp2_with fail
      go_ret2
      have hr := HR.out
      rw [List.take_of_length_le (by have := HGK.out; omega), show G.length - i = 0 by have := HGK.out; omega] at hr
      simp only [List.replicate_zero, List.append_nil] at hr
      refine ⟨w.heap.size, i, ?_, ?_, Nat.le_refl _, HB.out⟩
      · rw [HGl.out, ← HK.out]; rfl
      · rw [← HGG.out]; exact hr.sl (by have := HGK.out; omega) (by omega)
end Go.Proofs.YtldohkfomdcpoaaGreatDoor
