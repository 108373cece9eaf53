/- The reference implementation of layer 1: Add, Sub: walks. -/
import Derived.Test.YtldohkfomdcpoaaGreatDoorRefM
namespace Go.Proofs.YtldohkfomdcpoaaGreatDoor
open Go.RowKit

theorem short_val {a : ByteArray} {m : Int} (h : shortV a = .tuple #[.int .i64 m, .bool true]) : m = vS a ∧ -100000000000000000 < m ∧ m < 100000000000000000 := by
  unfold shortV at h
  by_cases h17 : (Num.sdig a.data.toList).length ≤ 17
  · rw [if_pos h17] at h
    injection h with h
    have h2 : vS a = m := by
      have := congrArg (fun x : Array Value => x[0]?) h
      simp at this; exact this
    have h1 := Num.num_lt _ (Num.Plain.sdig a.data.toList).1
    have h3 := Nat.pow_le_pow_right (show 1 ≤ 10 by decide) h17
    have h4 : (vS a).natAbs = Num.mag a.data.toList := Num.natAbs_val _
    unfold Num.mag at h4
    omega
  · rw [if_neg h17] at h
    injection h with h
    have := congrArg (fun x : Array Value => x[1]?) h
    simp at this

set_option maxRecDepth 100000 in
set_option maxHeartbeats 4000000 in
theorem rAdd_long (a b : ByteArray) (w : World) (ha : a.size ≤ 1000) (hb : b.size ≤ 1000) (m p : Int) (is q : Bool) (hsa : shortV a = .tuple #[.int .i64 m, .bool is]) (hsb : shortV b = .tuple #[.int .i64 p, .bool q])
    (hway : is = false ∨ (is = true ∧ q = false)) :
    Calls Tryz.prog 56 #[.string a, .string b] w (StrPost w (vS a + vS b)) := by
  have HSA := Lib.hid hsa
  have HSB := Lib.hid hsb
  have hla := gS_length2 a ha
  have hlb := gS_length2 b hb
  have hva := vS_sg a
  have hvb := vS_sg b
  obtain ⟨na, hna⟩ : ∃ na, na = Num.sneg a.data.toList := ⟨_, rfl⟩
  obtain ⟨nb, hnb⟩ : ∃ nb, nb = Num.sneg b.data.toList := ⟨_, rfl⟩
  rw [← hna] at hva
  rw [← hnb] at hvb
  have HV := Lib.hid (show sg na (Num.gval (gS a)) + sg nb (Num.gval (gS b)) = vS a + vS b by rw [hva, hvb])
  have HNA := Lib.hid hna
  have HNB := Lib.hid hnb
  clear hsa hsb hva hvb hna hnb
  rcases hway with rfl | ⟨rfl, rfl⟩
  all_goals
    go_enter Tryz.func56, Tryz.ntmps56
    go_wp2_with fail
    refine (short_any a w (by omega)).mono ?_
    rintro e _ ⟨rfl, rfl⟩
    rw [HSA.out]
    go_wp2_with fail
    refine (short_any b w (by omega)).mono ?_
    rintro e _ ⟨rfl, rfl⟩
    rw [HSB.out]
    go_wp2_with fail
    refine (rRead_any a w ha).mono ?_
    rintro e w1 ⟨xa, cx, rfl, hrx, hB1⟩
    rw [← HNA.out]
    go_wp2_with fail
    refine (rRead_any b w1 hb).mono ?_
    rintro e w2 ⟨ya, cy, rfl, hry, hB2⟩
    rw [← HNB.out]
    have hrx2 := hrx.below hB2
    have hB : Below w.heap.size w w2 := hB1.trans (hB2.mono hB1.size)
    clear hB1 hB2 hrx
    go_wp2_with fail
    refine (rAdd_num na nb w2 xa ya cx cy _ _ (gS a) (gS b) rfl rfl hrx2 hry (gS_can a) (gS_can b) (by omega)).mono ?_
    rintro e w3 ⟨ng, va, vc, zs, rfl, hzc, hzv, hrd, hzl, hB3, _⟩
    have HZV := Lib.hid hzv
    have hB' := hB.trans (hB3.mono hB.size)
    clear hzv hrx2 hry
    go_wp2_with fail
    refine (rWrite_any ng w3 va vc _ zs rfl hrd hzc.1 (by omega)).mono ?_
    rintro e w4 ⟨rfl, hB4⟩
    go_wp2_with fail
    go_ret
    exact ⟨by rw [HZV.out, HV.out]; rfl, hB'.trans (hB4.mono hB'.size)⟩

set_option maxRecDepth 100000 in
set_option maxHeartbeats 4000000 in
theorem rAdd_short (a b : ByteArray) (w : World) (ha : a.size ≤ 1000) (hb : b.size ≤ 1000) (m p : Int) (hsa : shortV a = .tuple #[.int .i64 m, .bool true]) (hsb : shortV b = .tuple #[.int .i64 p, .bool true])
    (m0 : -100000000000000000 < m) (m1 : m < 100000000000000000) (p0 : -100000000000000000 < p) (p1 : p < 100000000000000000) :
    Calls Tryz.prog 56 #[.string a, .string b] w fun e w' => e = .returned (.string (cS (m + p))) ∧ w = w' := by
  have HSA := Lib.hid hsa
  have HSB := Lib.hid hsb
  clear hsa hsb
  go_enter Tryz.func56, Tryz.ntmps56
  go_wp2_with fail
  refine (short_any a w (by omega)).mono ?_
  rintro e _ ⟨rfl, rfl⟩
  rw [HSA.out]
  go_wp2_with fail
  refine (short_any b w (by omega)).mono ?_
  rintro e _ ⟨rfl, rfl⟩
  rw [HSB.out]
  go_wp2_with fail
  refine (rOf_any (m + p) w (by omega) (by omega)).mono ?_
  rintro e _ ⟨rfl, rfl⟩
  go_wp2_with fail
  go_ret
  exact ⟨rfl, rfl⟩

theorem rAdd_any (a b : ByteArray) (w : World) (ha : a.size ≤ 1000) (hb : b.size ≤ 1000) :
    Calls Tryz.prog 56 #[.string a, .string b] w (StrPost w (vS a + vS b)) := by
  rcases shortV_ways a with hsa | hsa
  · rcases shortV_ways b with hsb | hsb
    · obtain ⟨_, h1, h2⟩ := short_val hsa
      obtain ⟨_, h3, h4⟩ := short_val hsb
      exact (rAdd_short a b w ha hb _ _ hsa hsb h1 h2 h3 h4).mono fun e w' hh => ⟨hh.1, hh.2 ▸ Below.refl _ _⟩
    · exact rAdd_long a b w ha hb _ _ _ _ hsa hsb (.inr ⟨rfl, rfl⟩)
  · rcases shortV_ways b with hsb | hsb
    · exact rAdd_long a b w ha hb _ _ _ _ hsa hsb (.inl rfl)
    · exact rAdd_long a b w ha hb _ _ _ _ hsa hsb (.inl rfl)

set_option maxRecDepth 100000 in
set_option maxHeartbeats 2000000 in
theorem rSub_any (a b : ByteArray) (w : World) (ha : a.size ≤ 999) (hb : b.size ≤ 999) :
    Calls Tryz.prog 54 #[.string a, .string b] w (StrPost w (vS a - vS b)) := by
  have hn := cS_neg_size b
  go_enter Tryz.func54, Tryz.ntmps54
  go_wp2_with fail
  refine (rNeg_any b w (by omega)).mono ?_
  rintro e w1 ⟨rfl, rfl⟩
  go_wp2_with fail
  refine (rAdd_any a (cS (- vS b)) w (by omega) (by omega)).mono ?_
  rintro e w2 ⟨rfl, hB⟩
  go_wp2_with fail
  go_ret
  exact ⟨by rw [vS_cS]; rfl, hB⟩

end Go.Proofs.YtldohkfomdcpoaaGreatDoor
