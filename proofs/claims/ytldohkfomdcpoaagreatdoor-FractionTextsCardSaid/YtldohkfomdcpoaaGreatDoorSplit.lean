/- integer.split, join, Canonical, Neg, Check, Print: walks. -/
import Derived.Test.YtldohkfomdcpoaaGreatDoorBase
import Derived.Outline
namespace Go.Proofs.YtldohkfomdcpoaaGreatDoor
open Go.RowKit

theorem cut_shelf (l : List UInt8) : Num.cut l = (Lib.hasPrefix l [45], Lib.trimPrefix l [45]) := by
  unfold Num.cut Lib.trimPrefix Lib.hasPrefix
  cases l with
  | nil => rfl
  | cons c l =>
    by_cases h : c = 45
    · subst h; simp
    · have h2 : (45 == c) = false := by simpa using fun e => h e.symm
      have h3 : List.isPrefixOf [45] (c :: l) = false := by simp [List.isPrefixOf, h2]
      rw [h3]; simp [h]

theorem cut_length (l : List UInt8) : (Num.cut l).2.length ≤ l.length := by
  unfold Num.cut; split <;> simp

/-- a byte that is not a digit -/
theorem not_dig {c : UInt8} (h : (c.toNat : Int) < 48 ∨ 57 < (c.toNat : Int)) : Num.isDig c = false := by
  rw [Bool.eq_false_iff]; intro e; have := (Num.isDig_iff c).1 e; omega

theorem all_take_succ {d : List UInt8} {k : Nat} (h : (d.take k).all Num.isDig = true) (hk : k < d.length) (h1 : ¬ (d[k].toNat : Int) < 48) (h2 : ¬ 57 < (d[k].toNat : Int)) : (d.take (k + 1)).all Num.isDig = true := by
  rw [List.take_succ_eq_append_getElem hk, List.all_append, h]
  simp [Num.isDig_iff]; omega

theorem not_all_at {d : List UInt8} {k : Nat} (hk : k < d.length) (h : (d[k].toNat : Int) < 48 ∨ 57 < (d[k].toNat : Int)) : d.all Num.isDig = false := by
  rw [Bool.eq_false_iff]; intro e
  have := List.all_eq_true.1 e _ (List.getElem_mem hk)
  rw [not_dig h] at this; simp at this

theorem split_bad {l d : List UInt8} {ng : Bool} (h : (ng, d) = Num.cut l) (hd : d.all Num.isDig = false) : Num.sneg l = false ∧ Num.sdig l = [] := by
  have : Num.sdig l = [] := by unfold Num.sdig; rw [← h]; simp only [hd]; rfl
  refine ⟨?_, this⟩
  unfold Num.sneg; rw [this]; simp
theorem split_good {l d : List UInt8} {ng : Bool} (h : (ng, d) = Num.cut l) (hd : d.all Num.isDig = true) : Num.sneg l = (ng && !(Lib.trimLeftB d 48).isEmpty) ∧ Num.sdig l = Lib.trimLeftB d 48 := by
  have : Num.sdig l = Lib.trimLeftB d 48 := by unfold Num.sdig; rw [← h]; simp only [hd]; rfl
  refine ⟨?_, this⟩
  unfold Num.sneg; rw [this, ← h]

theorem minus_append (d : List UInt8) : (ByteArray.mk #[45]) ++ (ByteArray.mk d.toArray) = ⟨(45 :: d).toArray⟩ := by
  apply ByteArray.ext
  simp [ByteArray.data_append]
theorem byte_at (D : ByteArray) (k : Nat) (_ : k < D.size) (h' : k < D.data.toList.length) : D.data.toList[k] = D[k] := by
  rw [Array.getElem_toList]; rfl

set_option maxHeartbeats 400000 in
theorem split_any (s : ByteArray) (w : World) (hs : s.size ≤ maxLen) :
    Calls Tryz.prog 73 #[.string s] w fun e w' => e = .returned (.tuple #[.bool (Num.sneg s.data.toList), .string ⟨(Num.sdig s.data.toList).toArray⟩]) ∧ w = w' := by
  obtain ⟨ng, D, hcut⟩ : ∃ ng, ∃ D : ByteArray, (ng, D.data.toList) = Num.cut s.data.toList := ⟨(Num.cut s.data.toList).1, ⟨(Num.cut s.data.toList).2.toArray⟩, rfl⟩
  have h1 : Lib.hasPrefix s.data.toList [45] = ng := by rw [cut_shelf] at hcut; exact (Prod.mk.inj hcut).1.symm
  have h2 : (ByteArray.mk (Lib.trimPrefix s.data.toList [45]).toArray) = D := by rw [cut_shelf] at hcut; rw [← (Prod.mk.inj hcut).2]
  have hd : D.size ≤ 9223372036854775807 := by
    have := cut_length s.data.toList
    rw [← hcut, size_toList] at this
    unfold maxLen at hs
    simp only [size_toList] at this; omega
  have HC := Lib.hid hcut
  clear hcut
  go_enter Tryz.func73, Tryz.ntmps73
  go_wp2_with (go_at_call 96; refine (Tryz.strings_CutPrefix _ _ _).mono ?_; rintro e w' ⟨rfl, rfl⟩)
  clear h1 h2
  go_loop [14] (fun i => ∃ k : Nat, k ≤ D.size ∧ i = .int .i64 k ∧ (D.data.toList.take k).all Num.isDig = true) (fun i => D.size - (intOf i).toNat)
  case atStart => exact ⟨0, Nat.zero_le _, rfl, rfl⟩
  case round =>
    obtain ⟨k, hk, rfl, ha⟩ := hrel
    have HA := Lib.hid ha
    clear ha
    by_cases hlt : k < D.size
    · have hlt' : k < D.data.toList.length := by rw [size_toList]; exact hlt
      have HB := Lib.hid (byte_at D k hlt hlt')
      by_cases b1 : ((D[k]'hlt).toNat : Int) < 48
      · have H := Lib.hid (split_bad HC.out (not_all_at hlt' (.inl (by rw [HB.out]; exact b1))))
        clear HB hlt'
        go_wp2
        go_ret2
        exact ⟨by rw [H.out.1, H.out.2]; rfl, rfl⟩
      · by_cases b2 : 57 < ((D[k]'hlt).toNat : Int)
        · have H := Lib.hid (split_bad HC.out (not_all_at hlt' (.inr (by rw [HB.out]; exact b2))))
          clear HB hlt'
          go_wp2
          go_ret2
          exact ⟨by rw [H.out.1, H.out.2]; rfl, rfl⟩
        · have H := Lib.hid (all_take_succ HA.out hlt' (by rw [HB.out]; exact b1) (by rw [HB.out]; exact b2))
          clear HB hlt'
          go_wp2
          go_round
          case rel => exact ⟨k + 1, by omega, by go_num, H.out⟩
          case measure => simp [intOf]; omega
    · have ha : D.data.toList.all Num.isDig = true := by have := HA.out; rw [List.take_of_length_le (by rw [size_toList]; omega)] at this; exact this
      have H := Lib.hid (split_good HC.out ha)
      clear ha
      cases ng <;> go_wp2_with (go_at_call 97; refine (Tryz.strings_TrimLeft_one _ _ (by decide) _).mono ?_; rintro e w' ⟨rfl, rfl⟩)
      · go_ret2
        exact ⟨by rw [H.out.1, H.out.2]; simp, rfl⟩
      · go_ret2
        exact ⟨by rw [H.out.1, H.out.2]; simp, rfl⟩

set_option maxHeartbeats 400000 in
theorem join_any (n : Bool) (d : List UInt8) (w : World) (hd : d.length < 9223372036854775807) :
    Calls Tryz.prog 94 #[.bool n, .string ⟨d.toArray⟩] w fun e w' => e = .returned (.string ⟨(Num.joined n d).toArray⟩) ∧ w = w' := by
  cases n
  · go_enter Tryz.func94, Tryz.ntmps94
    go_wp2
    go_ret
    exact ⟨rfl, rfl⟩
  · have h0 : ¬ 9223372036854775807 < 1 + d.length := by omega
    cases hb : d.isEmpty
    · have hb' : (!d.isEmpty) = true := by rw [hb]; rfl
      have H := Lib.hid hb
      clear hb
      go_enter Tryz.func94, Tryz.ntmps94
      go_wp2
      go_ret
      exact ⟨by unfold Num.joined; rw [H.out]; simp [minus_append], rfl⟩
    · have hb' : (!d.isEmpty) = false := by rw [hb]; rfl
      have H := Lib.hid hb
      clear hb
      go_enter Tryz.func94, Tryz.ntmps94
      go_wp2
      go_ret
      exact ⟨by unfold Num.joined; rw [H.out]; simp, rfl⟩

end Go.Proofs.YtldohkfomdcpoaaGreatDoor
