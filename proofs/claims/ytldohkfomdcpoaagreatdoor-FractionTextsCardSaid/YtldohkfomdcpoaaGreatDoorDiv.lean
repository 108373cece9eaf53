/- integer.Div: the walk by contracts. -/
import Derived.Test.YtldohkfomdcpoaaGreatDoorAdd
namespace Go.Proofs.YtldohkfomdcpoaaGreatDoor
open Go.RowKit

theorem fdiv_unique {a b q r : Int} (h : a = q * b + r) (hb : (0 < b ∧ 0 ≤ r ∧ r < b) ∨ (b < 0 ∧ b < r ∧ r ≤ 0)) : Int.fdiv a b = q ∧ Int.fmod a b = r := by
  have hq : Int.fdiv a b = q := by
    rcases hb with ⟨h0, h1, h2⟩ | ⟨h0, h1, h2⟩
    · rw [Int.fdiv_eq_ediv_of_nonneg _ (by omega)]
      have := (Int.ediv_emod_unique (a := a) (b := b) (r := r) (q := q) h0).2 ⟨by rw [h, Int.mul_comm]; omega, h1, h2⟩
      exact this.1
    · rw [← Int.neg_fdiv_neg, Int.fdiv_eq_ediv_of_nonneg _ (by omega)]
      have := (Int.ediv_emod_unique (a := -a) (b := -b) (r := -r) (q := q) (by omega)).2 ⟨by rw [h, Int.mul_comm q b, Int.neg_mul]; omega, by omega, by omega⟩
      exact this.1
  refine ⟨hq, ?_⟩
  have := Int.fmod_add_mul_fdiv a b
  rw [hq, Int.mul_comm] at this; omega

/-- what Div leaves, at a divisor that is not 0 -/
def DivPost (w : World) (a b : Int) (e : Ending) (w' : World) : Prop :=
  e = .returned (.tuple #[.string (cS (Int.fdiv a b)), .string (cS (Int.fmod a b)), .int .i64 0]) ∧ Below w.heap.size w w'

theorem grps_nil {s : ByteArray} : (gS s).length = 0 ↔ vS s = 0 := by
  have h1 := gS_val s
  have h2 := Num.gval_eq_zero (gS_can s)
  constructor
  · intro h
    have := h2.2 (List.eq_nil_of_length_eq_zero h)
    omega
  · intro h
    have := h2.1 (by rw [h1, h]; rfl)
    rw [this]; rfl

set_option maxRecDepth 100000 in
set_option maxHeartbeats 2000000 in
theorem div_zero (a b : ByteArray) (w : World) (ha : a.size ≤ 4294967296) (hb : b.size ≤ 4294967296) (h0 : vS b = 0) :
    Calls Tryz.prog 52 #[.string a, .string b] w fun e w' => e = .returned (.tuple #[.string ⟨#[]⟩, .string ⟨#[]⟩, .int .i64 10]) ∧ Below w.heap.size w w' := by
  have hl := grps_nil.2 h0
  have HL := Lib.hid hl
  clear hl h0
  go_enter Tryz.func52, Tryz.ntmps52
  go_wp2_with fail
  refine (read_any a w ha).mono ?_
  rintro e w1 ⟨bx, cx, rfl, hsx, hbx, hB1⟩
  go_wp2_with fail
  refine (read_any b w1 hb).mono ?_
  rintro e w2 ⟨bY, cy, rfl, hsy, hby, hB2⟩
  rw [HL.out]
  have hB : Below w.heap.size w w2 := hB1.trans (hB2.mono hB1.size)
  clear hB1 hB2
  go_wp2_with fail
  go_ret3
  exact ⟨rfl, hB⟩

/-- quotient and remainder of the values: the same sign -/
theorem div_same {A Bv : Int} {n : Bool} {X Y Q R : Int} (hA : A = sg n X) (hB : Bv = sg n Y) (hx : X = Q * Y + R) (h0 : 0 ≤ R) (h1 : R < Y) :
    sg false Q = Int.fdiv A Bv ∧ sg n R = Int.fmod A Bv := by
  have := fdiv_unique (a := A) (b := Bv) (q := sg false Q) (r := sg n R)
    (by rw [hA, hB, hx]; cases n
        · simp [sg]
        · simp only [sg, if_true, Bool.false_eq_true, if_false]; rw [Int.mul_neg]; omega)
    (by rw [hB]; cases n
        · left; simp [sg]; omega
        · right; simp [sg]; omega)
  exact ⟨this.1.symm, this.2.symm⟩
/-- other signs, no remainder -/
theorem div_exact {A Bv : Int} {na nb : Bool} {X Y Q R : Int} (hA : A = sg na X) (hB : Bv = sg nb Y) (hx : X = Q * Y + R) (h0 : R = 0) (h1 : R < Y) (hc : na ≠ nb) :
    sg true Q = Int.fdiv A Bv ∧ sg nb R = Int.fmod A Bv := by
  have := fdiv_unique (a := A) (b := Bv) (q := sg true Q) (r := sg nb R)
    (by rw [hA, hB, hx]
        cases na <;> cases nb <;> simp only [ne_eq, not_true_eq_false] at hc <;> simp only [sg, if_true, Bool.false_eq_true, if_false, Int.neg_mul, Int.mul_neg] <;> omega)
    (by rw [hB]; cases nb
        · left; simp [sg]; omega
        · right; simp [sg]; omega)
  exact ⟨this.1.symm, this.2.symm⟩
/-- other signs, with a remainder -/
theorem div_corrected {A Bv : Int} {na nb : Bool} {X Y Q R : Int} (hA : A = sg na X) (hB : Bv = sg nb Y) (hx : X = Q * Y + R) (h0 : 0 < R) (h1 : R < Y) (hc : na ≠ nb) :
    sg true (Q + 1) = Int.fdiv A Bv ∧ sg nb (Y - R) = Int.fmod A Bv := by
  have := fdiv_unique (a := A) (b := Bv) (q := sg true (Q + 1)) (r := sg nb (Y - R))
    (by rw [hA, hB, hx]
        cases na <;> cases nb <;> simp only [ne_eq, not_true_eq_false] at hc <;> simp only [sg, if_true, Bool.false_eq_true, if_false, Int.neg_mul, Int.mul_neg, Int.add_mul] <;> omega)
    (by rw [hB]; cases nb
        · left; simp [sg]; omega
        · right; simp [sg]; omega)
  exact ⟨this.1.symm, this.2.symm⟩

set_option maxRecDepth 100000 in
set_option maxHeartbeats 4000000 in
theorem div_any (a b : ByteArray) (w : World) (hG : Ground w) (ha : a.size ≤ 4294967296) (hb : b.size ≤ 4294967296) (h0 : vS b ≠ 0) :
    Calls Tryz.prog 52 #[.string a, .string b] w (DivPost w (vS a) (vS b)) := by
  have hva := vS_sg a
  have hvb := vS_sg b
  obtain ⟨na, hna⟩ : ∃ na, na = Num.sneg a.data.toList := ⟨_, rfl⟩
  obtain ⟨nb, hnb⟩ : ∃ nb, nb = Num.sneg b.data.toList := ⟨_, rfl⟩
  rw [← hna] at hva
  rw [← hnb] at hvb
  have hla := gS_length a ha
  have hlb := gS_length b hb
  have ga0 := Num.gval_nonneg (gS_can a).1
  have hyl : (gS b).length ≠ 0 := fun h => h0 (grps_nil.1 h)
  have gb0 := Num.gval_pos (gS_can b) (by intro h; rw [h] at hyl; exact hyl rfl)
  have hyb : (((gS b).length : Int) == 0) = false := by rw [beq_eq_false_iff_ne]; omega
  have HNA := Lib.hid hna
  have HNB := Lib.hid hnb
  have HVA := Lib.hid hva
  have HVB := Lib.hid hvb
  clear hna hnb hva hvb h0
  go_enter Tryz.func52, Tryz.ntmps52
  go_wp2_with fail
  refine (read_any a w ha).mono ?_
  rintro e w1 ⟨bx, cx, rfl, hsx, hbx, hB1⟩
  rw [← HNA.out]
  go_wp2_with fail
  refine (read_any b w1 hb).mono ?_
  rintro e w2 ⟨bY, cy, rfl, hsy, hby, hB2⟩
  rw [← HNB.out]
  have hB : Below w.heap.size w w2 := hB1.trans (hB2.mono hB1.size)
  have hsx2 : Sl w2 bx 0 cx (gS a) := hsx.below hB2 hsx.lt
  have hG2 := hG.below hB
  clear hB1 hB2 hsx
  go_wp2_with fail
  refine (divide_any w2 bx 0 cx bY 0 cy _ _ (gS a) (gS b) rfl rfl hsx2 hsy (gS_can a) (gS_can b) hyl (by omega)).mono ?_
  rintro e w3 ⟨qs, rs, qa, qcap, rb, ro, rcap, rfl, hqc, hrc, hx, hlt, hqs, hrs, hql, hrl, hB3⟩
  have hBB : Below w.heap.size w w3 := hB.trans (hB3.mono hB.size)
  have hG3 := hG.below hBB
  have hr0 := Num.gval_nonneg hrc.1
  by_cases hc : na = nb
  · subst hc
    have hvv := div_same HVA.out HVB.out hx hr0 hlt
    have HVV := Lib.hid hvv
    have HQS := Lib.hid hqs
    clear hvv hx hlt hqs
    go_wp2_with fail
    refine (write_any false w3 hG3 qa qcap qs HQS.out hqc (by omega)).mono ?_
    rintro e w4 ⟨rfl, hB4⟩
    have hB' := hBB.trans (hB4.mono hBB.size)
    rw [HVV.out.1]
    go_wp2_with fail
    refine (write_any na w4 (hG.below hB') (some ⟨rb, ro, none⟩) rcap rs (fun h => ⟨rb, ro, rfl, hrs.below hB4 hrs.lt⟩) hrc (by omega)).mono ?_
    rintro e w5 ⟨rfl, hB5⟩
    rw [HVV.out.2]
    go_wp2_with fail
    go_ret3
    exact ⟨rfl, hB'.trans (hB5.mono hB'.size)⟩
  · have hbb : (na == nb) = false := by simpa using hc
    by_cases hr : rs.length = 0
    · obtain rfl : rs = [] := List.eq_nil_of_length_eq_zero hr
      have hvv := div_exact HVA.out HVB.out hx rfl hlt hc
      have HVV := Lib.hid hvv
      have HQS := Lib.hid hqs
      clear hvv hx hlt hqs hr
      go_wp2_with fail
      refine (write_any true w3 hG3 qa qcap qs HQS.out hqc (by omega)).mono ?_
      rintro e w4 ⟨rfl, hB4⟩
      have hB' := hBB.trans (hB4.mono hBB.size)
      rw [HVV.out.1]
      go_wp2_with fail
      refine (write_nil nb w4 (some ⟨rb, ro, none⟩) rcap).mono ?_
      rintro e w5 ⟨rfl, hB5⟩
      rw [HVV.out.2]
      go_wp2_with fail
      go_ret3
      exact ⟨rfl, hB'.trans (hB5.mono hB'.size)⟩
    · have hr1 : 0 < rs.length := by omega
      have hrpos := Num.gval_pos hrc (by rintro rfl; simp at hr)
      have hvv := div_corrected HVA.out HVB.out hx hrpos hlt hc
      have hq0 := Num.gval_nonneg hqc.1
      obtain ⟨q2, hq2⟩ : ∃ q2, q2 = Num.groups (Num.gval qs + 1) := ⟨_, rfl⟩
      obtain ⟨r2, hr2⟩ : ∃ r2, r2 = Num.groups (Num.gval (gS b) - Num.gval rs) := ⟨_, rfl⟩
      have hq2c : Num.Can q2 := by rw [hq2]; exact Num.Can.groups _
      have hr2c : Num.Can r2 := by rw [hr2]; exact Num.Can.groups _
      have hq2g : Num.gval q2 = Num.gval qs + 1 * Num.gval [1] := by rw [hq2, Num.gval_groups (by omega), Num.gval_one]; omega
      have hr2g : Num.gval r2 = Num.gval (gS b) + -1 * Num.gval rs := by rw [hr2, Num.gval_groups (by omega)]; omega
      have hvq : sg true (Num.gval q2) = Int.fdiv (vS a) (vS b) := by rw [hq2g, Num.gval_one, ← hvv.1]; simp
      have hvr : sg nb (Num.gval r2) = Int.fmod (vS a) (vS b) := by
        rw [hr2g, ← hvv.2, show Num.gval (gS b) + -1 * Num.gval rs = Num.gval (gS b) - Num.gval rs by omega]
      have HQ2 := Lib.hid hq2g
      have HR2 := Lib.hid hr2g
      have HVQ := Lib.hid hvq
      have HVR := Lib.hid hvr
      have HQS := Lib.hid hqs
      clear hvv hx hlt hqs hq2 hr2 hq2g hr2g hvq hvr
      go_wp2_with fail
      obtain ⟨W4, hW4⟩ : ∃ W4, W4 = w3.alloc (.cells #[.int .i64 1] 3) := ⟨_, rfl⟩
      have hB4 : Below w3.heap.size w3 W4 := by rw [hW4]; exact (Below.refl _ _).alloc (Nat.le_refl _) _
      have hs4 : Sl W4 w3.heap.size 0 1 [1] := by rw [hW4]; exact one_sl w3 1
      rw [← hW4]
      clear hW4
      refine (combine_any 1 W4 qa qcap w3.heap.size 0 1 _ 1 qs [1] q2 rfl rfl (fun h => (HQS.out h).imp fun b h => h.imp fun o h => ⟨h.1, h.2.below hB4 h.2.lt⟩) hs4 hqc.1 (Num.Norm.one (by decide) (by decide)) (.inl rfl) (by omega) hq2c HQ2.out).mono ?_
      rintro e w5 ⟨b5, c5, rfl, hs5, hb5, hB5⟩
      have hB35 : Below w3.heap.size w3 w5 := hB4.trans (hB5.mono hB4.size)
      clear hs4
      go_wp2_with fail
      refine (combine_any (-1) w5 (some ⟨bY, 0, none⟩) cy rb ro rcap _ _ (gS b) rs r2 rfl rfl (fun h => ⟨bY, 0, rfl, (hsy.below hB3 hsy.lt).below hB35 (Nat.lt_of_lt_of_le hsy.lt hB3.size)⟩) (hrs.below hB35 hrs.lt) (gS_can b).1 hrc.1 (.inr rfl) (by omega) hr2c HR2.out).mono ?_
      rintro e w6 ⟨b6, c6, rfl, hs6, hb6, hB6⟩
      have hB6' : Below w.heap.size w w6 := (hBB.trans (hB35.mono hBB.size)).trans (hB6.mono (hBB.trans (hB35.mono hBB.size)).size)
      go_wp2_with fail
      refine (write_any true w6 (hG.below hB6') _ c5 q2 (fun _ => ⟨b5, 0, rfl, hs5.below hB6 hs5.lt⟩) hq2c (by have := hs5.le; have := hs5.max; omega)).mono ?_
      rintro e w7 ⟨rfl, hB7⟩
      rw [HVQ.out]
      have hB7' := hB6'.trans (hB7.mono hB6'.size)
      go_wp2_with fail
      refine (write_row nb w w7 (hG.below hB7') hB7' b6 c6 r2 (hs6.below hB7 hs6.lt) hr2c HVR.out).mono ?_
      rintro e w8 ⟨rfl, hB8⟩
      go_wp2_with fail
      go_ret3
      exact ⟨rfl, hB8⟩
end Go.Proofs.YtldohkfomdcpoaaGreatDoor
