/- The reference implementation of layer 1: Compare: the walk. -/
import Derived.Test.YtldohkfomdcpoaaGreatDoorRefDD
namespace Go.Proofs.YtldohkfomdcpoaaGreatDoor
open Go.RowKit

/-- the order of two integers by their signs and digits -/
theorem cmp_signs {a b : ByteArray} (ha : Num.sneg a.data.toList = true) (hb : Num.sneg b.data.toList = false) : cmp3 (vS a) (vS b) = -1 ∧ cmp3 (vS b) (vS a) = 1 := by
  have h1 := (vS_neg ha).2
  have h2 := (vS_pos hb).2
  exact ⟨cmp3_lt (by omega), cmp3_gt (by omega)⟩

set_option maxHeartbeats 1000000 in
theorem rCompare_false_false (a b : ByteArray) (w : World) (ha : a.size ≤ 4294967296) (hb : b.size ≤ 4294967296) (hna : Num.sneg a.data.toList = false) (hnb : Num.sneg b.data.toList = false) :
    Calls Tryz.prog 50 #[.string a, .string b] w fun e w' => e = .returned (.int .i64 (cmp3 (vS a) (vS b))) ∧ w = w' := by
  have hma := lim_max ha
  have hmb := lim_max hb
  obtain ⟨X, hX, hXl, hXa, hXs⟩ := dig_str a
  obtain ⟨Y, hY, hYl, hYa, hYs⟩ := dig_str b
  have HDA := Lib.hid hX
  have HDB := Lib.hid hY
  have HNA := Lib.hid hna
  have HNB := Lib.hid hnb
  have hva := (vS_pos hna).1
  have hvb := (vS_pos hnb).1
  rw [← hXl] at hva
  rw [← hYl] at hvb
  have pa := Num.Plain.sdig a.data.toList
  have pb := Num.Plain.sdig b.data.toList
  rw [← hXl] at pa
  rw [← hYl] at pb
  have HVA := Lib.hid hva
  have HVB := Lib.hid hvb
  have HPA := Lib.hid pa
  have HPB := Lib.hid pb
  clear hX hY hna hnb hXl hXa hYl hYa hva hvb pa pb
  by_cases h1 : X.size < Y.size
  · have hc : cmp3 (vS a) (vS b) = -1 := by
      have := num_lt_of_length HPA.out HPB.out (by rw [size_toList, size_toList]; exact h1)
      rw [HVA.out, HVB.out]
      exact cmp3_lt (by omega)
    have H := Lib.hid hc
    have hq : ((X.size : Int) == (Y.size : Int)) = false := by rw [beq_eq_false_iff_ne]; omega
    clear hc
    go_enter Tryz.func50, Tryz.ntmps50
    go_wp2_with fail
    refine (digits_any a w hma).mono ?_
    rintro e w' ⟨rfl, rfl⟩
    rw [← HDA.out, HNA.out]
    go_wp2_with fail
    refine (digits_any b w hmb).mono ?_
    rintro e w' ⟨rfl, rfl⟩
    rw [← HDB.out, HNB.out]
    go_wp2_with fail
    go_ret
    exact ⟨by rw [H.out]; rfl, rfl⟩
  · by_cases h2 : Y.size < X.size
    · have hc : cmp3 (vS a) (vS b) = 1 := by
        have := num_lt_of_length HPB.out HPA.out (by rw [size_toList, size_toList]; exact h2)
        rw [HVA.out, HVB.out]
        exact cmp3_gt (by omega)
      have H := Lib.hid hc
      have hq : ((X.size : Int) == (Y.size : Int)) = false := by rw [beq_eq_false_iff_ne]; omega
      clear hc
      go_enter Tryz.func50, Tryz.ntmps50
      go_wp2_with fail
      refine (digits_any a w hma).mono ?_
      rintro e w' ⟨rfl, rfl⟩
      rw [← HDA.out, HNA.out]
      go_wp2_with fail
      refine (digits_any b w hmb).mono ?_
      rintro e w' ⟨rfl, rfl⟩
      rw [← HDB.out, HNB.out]
      go_wp2_with fail
      go_ret
      exact ⟨by rw [H.out]; rfl, rfl⟩
    · have hl : X.data.toList.length = Y.data.toList.length := by rw [size_toList, size_toList]; omega
      have hq : ((X.size : Int) == (Y.size : Int)) = true := by rw [beq_iff_eq]; omega
      have e1 := bytesLess_num _ _ HPA.out.1 HPB.out.1 hl
      have e2 := beq_num HPA.out.1 HPB.out.1 hl
      rw [← Lib.toList_data X, ← Lib.toList_data Y] at e1 e2
      by_cases h3 : Num.num X.data.toList < Num.num Y.data.toList
      · have hc : cmp3 (vS a) (vS b) = -1 := by
          rw [HVA.out, HVB.out]
          exact cmp3_lt (by omega)
        have H := Lib.hid hc
        rw [Lib.toList_data X, Lib.toList_data Y, decide_eq_true h3, ← Lib.toList_data X, ← Lib.toList_data Y] at e1
        clear hc e2 h1 h2 h3 hl
        go_enter Tryz.func50, Tryz.ntmps50
        go_wp2_with fail
        refine (digits_any a w hma).mono ?_
        rintro e w' ⟨rfl, rfl⟩
        rw [← HDA.out, HNA.out]
        go_wp2_with fail
        refine (digits_any b w hmb).mono ?_
        rintro e w' ⟨rfl, rfl⟩
        rw [← HDB.out, HNB.out]
        go_wp2_with fail
        go_ret
        exact ⟨by rw [H.out]; rfl, rfl⟩
      · by_cases h4 : Num.num Y.data.toList < Num.num X.data.toList
        · have hc : cmp3 (vS a) (vS b) = 1 := by
            rw [HVA.out, HVB.out]
            exact cmp3_gt (by omega)
          have H := Lib.hid hc
          rw [Lib.toList_data X, Lib.toList_data Y, decide_eq_false h3, ← Lib.toList_data X, ← Lib.toList_data Y] at e1
          rw [Lib.toList_data X, Lib.toList_data Y, decide_eq_false (by omega), ← Lib.toList_data X, ← Lib.toList_data Y] at e2
          clear hc h1 h2 h3 h4 hl
          go_enter Tryz.func50, Tryz.ntmps50
          go_wp2_with fail
          refine (digits_any a w hma).mono ?_
          rintro e w' ⟨rfl, rfl⟩
          rw [← HDA.out, HNA.out]
          go_wp2_with fail
          refine (digits_any b w hmb).mono ?_
          rintro e w' ⟨rfl, rfl⟩
          rw [← HDB.out, HNB.out]
          go_wp2_with fail
          go_ret
          exact ⟨by rw [H.out]; rfl, rfl⟩
        · have hc : cmp3 (vS a) (vS b) = 0 := by
            rw [HVA.out, HVB.out]
            exact cmp3_eq (by omega)
          have H := Lib.hid hc
          rw [Lib.toList_data X, Lib.toList_data Y, decide_eq_false h3, ← Lib.toList_data X, ← Lib.toList_data Y] at e1
          rw [Lib.toList_data X, Lib.toList_data Y, decide_eq_true (by omega), ← Lib.toList_data X, ← Lib.toList_data Y] at e2
          clear hc h1 h2 h3 h4 hl
          go_enter Tryz.func50, Tryz.ntmps50
          go_wp2_with fail
          refine (digits_any a w hma).mono ?_
          rintro e w' ⟨rfl, rfl⟩
          rw [← HDA.out, HNA.out]
          go_wp2_with fail
          refine (digits_any b w hmb).mono ?_
          rintro e w' ⟨rfl, rfl⟩
          rw [← HDB.out, HNB.out]
          go_wp2_with fail
          go_ret
          exact ⟨by rw [H.out]; rfl, rfl⟩

set_option maxHeartbeats 1000000 in
theorem rCompare_false_true (a b : ByteArray) (w : World) (ha : a.size ≤ 4294967296) (hb : b.size ≤ 4294967296) (hna : Num.sneg a.data.toList = false) (hnb : Num.sneg b.data.toList = true) :
    Calls Tryz.prog 50 #[.string a, .string b] w fun e w' => e = .returned (.int .i64 (cmp3 (vS a) (vS b))) ∧ w = w' := by
  have hma := lim_max ha
  have hmb := lim_max hb
  obtain ⟨X, hX, hXl, hXa, hXs⟩ := dig_str a
  obtain ⟨Y, hY, hYl, hYa, hYs⟩ := dig_str b
  have HDA := Lib.hid hX
  have HDB := Lib.hid hY
  have HNA := Lib.hid hna
  have HNB := Lib.hid hnb
  have H := Lib.hid ((cmp_signs hnb hna).2)
  clear hX hY hna hnb hXl hXa hYl hYa
  go_enter Tryz.func50, Tryz.ntmps50
  go_wp2_with fail
  refine (digits_any a w hma).mono ?_
  rintro e w' ⟨rfl, rfl⟩
  rw [← HDA.out, HNA.out]
  go_wp2_with fail
  refine (digits_any b w hmb).mono ?_
  rintro e w' ⟨rfl, rfl⟩
  rw [← HDB.out, HNB.out]
  go_wp2_with fail
  go_ret
  exact ⟨by rw [H.out]; rfl, rfl⟩

set_option maxHeartbeats 1000000 in
theorem rCompare_true_false (a b : ByteArray) (w : World) (ha : a.size ≤ 4294967296) (hb : b.size ≤ 4294967296) (hna : Num.sneg a.data.toList = true) (hnb : Num.sneg b.data.toList = false) :
    Calls Tryz.prog 50 #[.string a, .string b] w fun e w' => e = .returned (.int .i64 (cmp3 (vS a) (vS b))) ∧ w = w' := by
  have hma := lim_max ha
  have hmb := lim_max hb
  obtain ⟨X, hX, hXl, hXa, hXs⟩ := dig_str a
  obtain ⟨Y, hY, hYl, hYa, hYs⟩ := dig_str b
  have HDA := Lib.hid hX
  have HDB := Lib.hid hY
  have HNA := Lib.hid hna
  have HNB := Lib.hid hnb
  have H := Lib.hid ((cmp_signs hna hnb).1)
  clear hX hY hna hnb hXl hXa hYl hYa
  go_enter Tryz.func50, Tryz.ntmps50
  go_wp2_with fail
  refine (digits_any a w hma).mono ?_
  rintro e w' ⟨rfl, rfl⟩
  rw [← HDA.out, HNA.out]
  go_wp2_with fail
  refine (digits_any b w hmb).mono ?_
  rintro e w' ⟨rfl, rfl⟩
  rw [← HDB.out, HNB.out]
  go_wp2_with fail
  go_ret
  exact ⟨by rw [H.out]; rfl, rfl⟩

set_option maxHeartbeats 1000000 in
theorem rCompare_true_true (a b : ByteArray) (w : World) (ha : a.size ≤ 4294967296) (hb : b.size ≤ 4294967296) (hna : Num.sneg a.data.toList = true) (hnb : Num.sneg b.data.toList = true) :
    Calls Tryz.prog 50 #[.string a, .string b] w fun e w' => e = .returned (.int .i64 (cmp3 (vS a) (vS b))) ∧ w = w' := by
  have hma := lim_max ha
  have hmb := lim_max hb
  obtain ⟨X, hX, hXl, hXa, hXs⟩ := dig_str a
  obtain ⟨Y, hY, hYl, hYa, hYs⟩ := dig_str b
  have HDA := Lib.hid hX
  have HDB := Lib.hid hY
  have HNA := Lib.hid hna
  have HNB := Lib.hid hnb
  have hva := (vS_neg hna).1
  have hvb := (vS_neg hnb).1
  rw [← hXl] at hva
  rw [← hYl] at hvb
  have pa := Num.Plain.sdig a.data.toList
  have pb := Num.Plain.sdig b.data.toList
  rw [← hXl] at pa
  rw [← hYl] at pb
  have HVA := Lib.hid hva
  have HVB := Lib.hid hvb
  have HPA := Lib.hid pa
  have HPB := Lib.hid pb
  clear hX hY hna hnb hXl hXa hYl hYa hva hvb pa pb
  by_cases h1 : X.size < Y.size
  · have hc : cmp3 (vS a) (vS b) = 1 := by
      have := num_lt_of_length HPA.out HPB.out (by rw [size_toList, size_toList]; exact h1)
      rw [HVA.out, HVB.out]
      exact cmp3_gt (by omega)
    have H := Lib.hid hc
    have hq : ((X.size : Int) == (Y.size : Int)) = false := by rw [beq_eq_false_iff_ne]; omega
    clear hc
    go_enter Tryz.func50, Tryz.ntmps50
    go_wp2_with fail
    refine (digits_any a w hma).mono ?_
    rintro e w' ⟨rfl, rfl⟩
    rw [← HDA.out, HNA.out]
    go_wp2_with fail
    refine (digits_any b w hmb).mono ?_
    rintro e w' ⟨rfl, rfl⟩
    rw [← HDB.out, HNB.out]
    go_wp2_with fail
    go_ret
    exact ⟨by rw [H.out]; rfl, rfl⟩
  · by_cases h2 : Y.size < X.size
    · have hc : cmp3 (vS a) (vS b) = -1 := by
        have := num_lt_of_length HPB.out HPA.out (by rw [size_toList, size_toList]; exact h2)
        rw [HVA.out, HVB.out]
        exact cmp3_lt (by omega)
      have H := Lib.hid hc
      have hq : ((X.size : Int) == (Y.size : Int)) = false := by rw [beq_eq_false_iff_ne]; omega
      clear hc
      go_enter Tryz.func50, Tryz.ntmps50
      go_wp2_with fail
      refine (digits_any a w hma).mono ?_
      rintro e w' ⟨rfl, rfl⟩
      rw [← HDA.out, HNA.out]
      go_wp2_with fail
      refine (digits_any b w hmb).mono ?_
      rintro e w' ⟨rfl, rfl⟩
      rw [← HDB.out, HNB.out]
      go_wp2_with fail
      go_ret
      exact ⟨by rw [H.out]; rfl, rfl⟩
    · have hl : X.data.toList.length = Y.data.toList.length := by rw [size_toList, size_toList]; omega
      have hq : ((X.size : Int) == (Y.size : Int)) = true := by rw [beq_iff_eq]; omega
      have e1 := bytesLess_num _ _ HPA.out.1 HPB.out.1 hl
      have e2 := beq_num HPA.out.1 HPB.out.1 hl
      rw [← Lib.toList_data X, ← Lib.toList_data Y] at e1 e2
      by_cases h3 : Num.num X.data.toList < Num.num Y.data.toList
      · have hc : cmp3 (vS a) (vS b) = 1 := by
          rw [HVA.out, HVB.out]
          exact cmp3_gt (by omega)
        have H := Lib.hid hc
        rw [Lib.toList_data X, Lib.toList_data Y, decide_eq_true h3, ← Lib.toList_data X, ← Lib.toList_data Y] at e1
        clear hc e2 h1 h2 h3 hl
        go_enter Tryz.func50, Tryz.ntmps50
        go_wp2_with fail
        refine (digits_any a w hma).mono ?_
        rintro e w' ⟨rfl, rfl⟩
        rw [← HDA.out, HNA.out]
        go_wp2_with fail
        refine (digits_any b w hmb).mono ?_
        rintro e w' ⟨rfl, rfl⟩
        rw [← HDB.out, HNB.out]
        go_wp2_with fail
        go_ret
        exact ⟨by rw [H.out]; rfl, rfl⟩
      · by_cases h4 : Num.num Y.data.toList < Num.num X.data.toList
        · have hc : cmp3 (vS a) (vS b) = -1 := by
            rw [HVA.out, HVB.out]
            exact cmp3_lt (by omega)
          have H := Lib.hid hc
          rw [Lib.toList_data X, Lib.toList_data Y, decide_eq_false h3, ← Lib.toList_data X, ← Lib.toList_data Y] at e1
          rw [Lib.toList_data X, Lib.toList_data Y, decide_eq_false (by omega), ← Lib.toList_data X, ← Lib.toList_data Y] at e2
          clear hc h1 h2 h3 h4 hl
          go_enter Tryz.func50, Tryz.ntmps50
          go_wp2_with fail
          refine (digits_any a w hma).mono ?_
          rintro e w' ⟨rfl, rfl⟩
          rw [← HDA.out, HNA.out]
          go_wp2_with fail
          refine (digits_any b w hmb).mono ?_
          rintro e w' ⟨rfl, rfl⟩
          rw [← HDB.out, HNB.out]
          go_wp2_with fail
          go_ret
          exact ⟨by rw [H.out]; rfl, rfl⟩
        · have hc : cmp3 (vS a) (vS b) = 0 := by
            rw [HVA.out, HVB.out]
            exact cmp3_eq (by omega)
          have H := Lib.hid hc
          rw [Lib.toList_data X, Lib.toList_data Y, decide_eq_false h3, ← Lib.toList_data X, ← Lib.toList_data Y] at e1
          rw [Lib.toList_data X, Lib.toList_data Y, decide_eq_true (by omega), ← Lib.toList_data X, ← Lib.toList_data Y] at e2
          clear hc h1 h2 h3 h4 hl
          go_enter Tryz.func50, Tryz.ntmps50
          go_wp2_with fail
          refine (digits_any a w hma).mono ?_
          rintro e w' ⟨rfl, rfl⟩
          rw [← HDA.out, HNA.out]
          go_wp2_with fail
          refine (digits_any b w hmb).mono ?_
          rintro e w' ⟨rfl, rfl⟩
          rw [← HDB.out, HNB.out]
          go_wp2_with fail
          go_ret
          exact ⟨by rw [H.out]; rfl, rfl⟩

theorem rCompare_any (a b : ByteArray) (w : World) (ha : a.size ≤ 4294967296) (hb : b.size ≤ 4294967296) :
    Calls Tryz.prog 50 #[.string a, .string b] w fun e w' => e = .returned (.int .i64 (cmp3 (vS a) (vS b))) ∧ w = w' := by
  cases na : Num.sneg a.data.toList <;> cases nb : Num.sneg b.data.toList
  · exact rCompare_false_false a b w ha hb na nb
  · exact rCompare_false_true a b w ha hb na nb
  · exact rCompare_true_false a b w ha hb na nb
  · exact rCompare_true_true a b w ha hb na nb

end Go.Proofs.YtldohkfomdcpoaaGreatDoor
