/- the law DecimalFinite: the walk. -/
import Derived.Test.YtlonbfddhfacmaaGreatDoorDG
import Derived.Test.YtlonbfddhfacmaaGreatDoorKD
namespace Go.Proofs.YtlonbfddhfacmaaGreatDoor
open Go.RowKit Fra

set_option maxRecDepth 100000 in
set_option maxHeartbeats 16000000 in
theorem dfi_long (fn fd : ByteArray) (w : World) (hG : Ground w) (hl : longF fn fd = true) :
    Calls Tryz.prog 5 #[.agg #[.string fn, .string fd]] w fun e w' => e = .returned (.bool true) ∧ Below w.heap.size w w' := by
  have HAW := Lib.hid dawake_any
  have HL := Lib.hid hl
  clear hl
  obtain ⟨W0, hW0⟩ : ∃ W0, W0 = w.alloc (.cells #[.string fn, .string fd] 24) := ⟨_, rfl⟩
  have hS : StL w W0 [(w.heap.size, fn, fd)] := by rw [hW0]; exact StL.one hG _ _
  go_enter Tryz.func5, Tryz.ntmps5
  go_upto_region 1 with fail
  rw [← hW0]
  clear hW0
  obtain ⟨fp0, _⟩ := hS.box
  obtain ⟨fx0, fy0, _, _⟩ := fp0.cells
  go_wp2_with fail
  clear fp0 fx0 fy0
  refine Calls.mono (rLongF fn fd _) ?_
  rintro _ w1 ⟨rfl, hB⟩
  replace hS := hS.next hB
  clear hB
  rw [HL.out]
  obtain ⟨fp0, _⟩ := hS.box
  obtain ⟨fx0, fy0, _, _⟩ := fp0.cells
  go_wp2_with fail
  clear fp0 fx0 fy0
  refine Calls.mono (Ret.call HAW.out _ hS.g) ?_
  rintro _ w2 ⟨rfl, hB⟩
  replace hS := hS.next hB
  clear hB
  obtain ⟨fp0, _⟩ := hS.box
  obtain ⟨fx0, fy0, _, _⟩ := fp0.cells
  go_wp2_with fail
  go_ret
  exact ⟨rfl, hS.below⟩

set_option maxRecDepth 100000 in
set_option maxHeartbeats 16000000 in
theorem dfi_no (fn fd : ByteArray) (w : World) (hG : Ground w) (hl : longF fn fd = false) {k : Int} (h1 : Ret 27 #[.agg #[.string fn, .string fd]] (.tuple #[.int .i64 k, .bool false])) (h2 : Ret 28 #[.agg #[.string fn, .string fd]] (.tuple #[.int .i64 k, .bool false])) :
    Calls Tryz.prog 5 #[.agg #[.string fn, .string fd]] w fun e w' => e = .returned (.bool true) ∧ Below w.heap.size w w' := by
  have HAW := Lib.hid dawake_any
  have HL := Lib.hid hl
  have H1 := Lib.hid h1
  have H2 := Lib.hid h2
  clear hl h1 h2
  obtain ⟨W0, hW0⟩ : ∃ W0, W0 = w.alloc (.cells #[.string fn, .string fd] 24) := ⟨_, rfl⟩
  have hS : StL w W0 [(w.heap.size, fn, fd)] := by rw [hW0]; exact StL.one hG _ _
  go_enter Tryz.func5, Tryz.ntmps5
  go_upto_region 1 with fail
  rw [← hW0]
  clear hW0
  obtain ⟨fp0, _⟩ := hS.box
  obtain ⟨fx0, fy0, _, _⟩ := fp0.cells
  go_wp2_with fail
  clear fp0 fx0 fy0
  refine Calls.mono (rLongF fn fd _) ?_
  rintro _ w1 ⟨rfl, hB⟩
  replace hS := hS.next hB
  clear hB
  rw [HL.out]
  obtain ⟨fp0, _⟩ := hS.box
  obtain ⟨fx0, fy0, _, _⟩ := fp0.cells
  go_wp2_with fail
  clear fp0 fx0 fy0
  refine Calls.mono (Ret.call H1.out _ hS.g) ?_
  rintro _ w2 ⟨rfl, hB⟩
  replace hS := hS.next hB
  clear hB
  obtain ⟨fp0, _⟩ := hS.box
  obtain ⟨fx0, fy0, _, _⟩ := fp0.cells
  go_wp2_with fail
  clear fp0 fx0 fy0
  refine Calls.mono (Ret.call H2.out _ hS.g) ?_
  rintro _ w3 ⟨rfl, hB⟩
  replace hS := hS.next hB
  clear hB
  obtain ⟨fp0, _⟩ := hS.box
  obtain ⟨fx0, fy0, _, _⟩ := fp0.cells
  go_wp2_with fail
  clear fp0 fx0 fy0
  refine Calls.mono (Ret.call HAW.out _ hS.g) ?_
  rintro _ w4 ⟨rfl, hB⟩
  replace hS := hS.next hB
  clear hB
  obtain ⟨fp0, _⟩ := hS.box
  obtain ⟨fx0, fy0, _, _⟩ := fp0.cells
  go_wp2_with fail
  go_ret
  exact ⟨rfl, hS.below⟩

set_option maxRecDepth 100000 in
set_option maxHeartbeats 16000000 in
theorem dfi_far (fn fd : ByteArray) (w : World) (hG : Ground w) (hl : longF fn fd = false) {k : Int} (h1 : Ret 27 #[.agg #[.string fn, .string fd]] (.tuple #[.int .i64 k, .bool true])) (h2 : Ret 28 #[.agg #[.string fn, .string fd]] (.tuple #[.int .i64 k, .bool true])) (hk : 12 < k) :
    Calls Tryz.prog 5 #[.agg #[.string fn, .string fd]] w fun e w' => e = .returned (.bool true) ∧ Below w.heap.size w w' := by
  have HAW := Lib.hid dawake_any
  have HL := Lib.hid hl
  have H1 := Lib.hid h1
  have H2 := Lib.hid h2
  clear hl h1 h2
  obtain ⟨W0, hW0⟩ : ∃ W0, W0 = w.alloc (.cells #[.string fn, .string fd] 24) := ⟨_, rfl⟩
  have hS : StL w W0 [(w.heap.size, fn, fd)] := by rw [hW0]; exact StL.one hG _ _
  go_enter Tryz.func5, Tryz.ntmps5
  go_upto_region 1 with fail
  rw [← hW0]
  clear hW0
  obtain ⟨fp0, _⟩ := hS.box
  obtain ⟨fx0, fy0, _, _⟩ := fp0.cells
  go_wp2_with fail
  clear fp0 fx0 fy0
  refine Calls.mono (rLongF fn fd _) ?_
  rintro _ w1 ⟨rfl, hB⟩
  replace hS := hS.next hB
  clear hB
  rw [HL.out]
  obtain ⟨fp0, _⟩ := hS.box
  obtain ⟨fx0, fy0, _, _⟩ := fp0.cells
  go_wp2_with fail
  clear fp0 fx0 fy0
  refine Calls.mono (Ret.call H1.out _ hS.g) ?_
  rintro _ w2 ⟨rfl, hB⟩
  replace hS := hS.next hB
  clear hB
  obtain ⟨fp0, _⟩ := hS.box
  obtain ⟨fx0, fy0, _, _⟩ := fp0.cells
  go_wp2_with fail
  clear fp0 fx0 fy0
  refine Calls.mono (Ret.call H2.out _ hS.g) ?_
  rintro _ w3 ⟨rfl, hB⟩
  replace hS := hS.next hB
  clear hB
  obtain ⟨fp0, _⟩ := hS.box
  obtain ⟨fx0, fy0, _, _⟩ := fp0.cells
  go_wp2_with fail
  clear fp0 fx0 fy0
  refine Calls.mono (Ret.call HAW.out _ hS.g) ?_
  rintro _ w4 ⟨rfl, hB⟩
  replace hS := hS.next hB
  clear hB
  obtain ⟨fp0, _⟩ := hS.box
  obtain ⟨fx0, fy0, _, _⟩ := fp0.cells
  go_wp2_with fail
  go_ret
  exact ⟨rfl, hS.below⟩

set_option maxRecDepth 100000 in
set_option maxHeartbeats 16000000 in
theorem dfi_zero (fn fd : ByteArray) (w : World) (hG : Ground w) (hl : longF fn fd = false) {k : Int} (h1 : Ret 27 #[.agg #[.string fn, .string fd]] (.tuple #[.int .i64 k, .bool true])) (h2 : Ret 28 #[.agg #[.string fn, .string fd]] (.tuple #[.int .i64 k, .bool true])) {s un ud : ByteArray} (hk : ¬ 12 < k) (h3 : Ret 17 #[.agg #[.string fn, .string fd], .int .i64 k, .int .i64 3] (two s 0)) (h4 : Ret 25 #[.string s] (fraE un ud 0)) (h5 : Ret 29 #[.agg #[.string fn, .string fd], .agg #[.string un, .string ud]] (.int .i64 0)) (hz : (k == 0) = true) :
    Calls Tryz.prog 5 #[.agg #[.string fn, .string fd]] w fun e w' => e = .returned (.bool true) ∧ Below w.heap.size w w' := by
  have HAW := Lib.hid dawake_any
  have HL := Lib.hid hl
  have H1 := Lib.hid h1
  have H2 := Lib.hid h2
  have H3 := Lib.hid h3
  have H4 := Lib.hid h4
  have H5 := Lib.hid h5
  clear hl h1 h2 h3 h4 h5
  obtain ⟨W0, hW0⟩ : ∃ W0, W0 = w.alloc (.cells #[.string fn, .string fd] 24) := ⟨_, rfl⟩
  have hS : StL w W0 [(w.heap.size, fn, fd)] := by rw [hW0]; exact StL.one hG _ _
  go_enter Tryz.func5, Tryz.ntmps5
  go_upto_region 1 with fail
  rw [← hW0]
  clear hW0
  obtain ⟨fp0, _⟩ := hS.box
  obtain ⟨fx0, fy0, _, _⟩ := fp0.cells
  go_wp2_with fail
  clear fp0 fx0 fy0
  refine Calls.mono (rLongF fn fd _) ?_
  rintro _ w1 ⟨rfl, hB⟩
  replace hS := hS.next hB
  clear hB
  rw [HL.out]
  obtain ⟨fp0, _⟩ := hS.box
  obtain ⟨fx0, fy0, _, _⟩ := fp0.cells
  go_wp2_with fail
  clear fp0 fx0 fy0
  refine Calls.mono (Ret.call H1.out _ hS.g) ?_
  rintro _ w2 ⟨rfl, hB⟩
  replace hS := hS.next hB
  clear hB
  obtain ⟨fp0, _⟩ := hS.box
  obtain ⟨fx0, fy0, _, _⟩ := fp0.cells
  go_wp2_with fail
  clear fp0 fx0 fy0
  refine Calls.mono (Ret.call H2.out _ hS.g) ?_
  rintro _ w3 ⟨rfl, hB⟩
  replace hS := hS.next hB
  clear hB
  obtain ⟨fp0, _⟩ := hS.box
  obtain ⟨fx0, fy0, _, _⟩ := fp0.cells
  go_wp2_with fail
  clear fp0 fx0 fy0
  refine Calls.mono (Ret.call H3.out _ hS.g) ?_
  rintro _ w4 ⟨rfl, hB⟩
  replace hS := hS.next hB
  clear hB
  obtain ⟨fp0, _⟩ := hS.box
  obtain ⟨fx0, fy0, _, _⟩ := fp0.cells
  go_wp2_with fail
  clear fp0 fx0 fy0
  refine Calls.mono (Ret.call H4.out _ hS.g) ?_
  rintro _ w5 ⟨rfl, hB⟩
  replace hS := hS.next hB
  clear hB
  go_upto_region 11 with fail
  obtain ⟨b6, hb6⟩ : ∃ b, b = w5.heap.size := ⟨_, rfl⟩
  obtain ⟨V6, hV6⟩ : ∃ V, V = w5.alloc (.cells #[.string un, .string ud] 24) := ⟨_, rfl⟩
  have hT : StL w V6 [(b6, un, ud), (w.heap.size, fn, fd)] := by rw [hV6, hb6]; exact hS.alloc _ _
  rw [← hb6, ← hV6]
  clear hV6 hb6 hS
  have hS := hT
  clear hT
  obtain ⟨fp0, fp1, _⟩ := hS.box
  obtain ⟨fx0, fy0, _, _⟩ := fp0.cells
  obtain ⟨fx1, fy1, _, _⟩ := fp1.cells
  go_wp2_with fail
  clear fp0 fx0 fy0 fp1 fx1 fy1
  refine Calls.mono (Ret.call H5.out _ hS.g) ?_
  rintro _ w7 ⟨rfl, hB⟩
  replace hS := hS.next hB
  clear hB
  obtain ⟨fp0, fp1, _⟩ := hS.box
  obtain ⟨fx0, fy0, _, _⟩ := fp0.cells
  obtain ⟨fx1, fy1, _, _⟩ := fp1.cells
  go_wp2_with fail
  clear fp0 fx0 fy0 fp1 fx1 fy1
  refine Calls.mono (Ret.call HAW.out _ hS.g) ?_
  rintro _ w8 ⟨rfl, hB⟩
  replace hS := hS.next hB
  clear hB
  obtain ⟨fp0, fp1, _⟩ := hS.box
  obtain ⟨fx0, fy0, _, _⟩ := fp0.cells
  obtain ⟨fx1, fy1, _, _⟩ := fp1.cells
  go_wp2_with fail
  go_ret
  exact ⟨rfl, hS.below⟩

set_option maxRecDepth 100000 in
set_option maxHeartbeats 16000000 in
theorem dfi_more (fn fd : ByteArray) (w : World) (hG : Ground w) (hl : longF fn fd = false) {k : Int} (h1 : Ret 27 #[.agg #[.string fn, .string fd]] (.tuple #[.int .i64 k, .bool true])) (h2 : Ret 28 #[.agg #[.string fn, .string fd]] (.tuple #[.int .i64 k, .bool true])) {s un ud : ByteArray} (hk : ¬ 12 < k) (h3 : Ret 17 #[.agg #[.string fn, .string fd], .int .i64 k, .int .i64 3] (two s 0)) (h4 : Ret 25 #[.string s] (fraE un ud 0)) (h5 : Ret 29 #[.agg #[.string fn, .string fd], .agg #[.string un, .string ud]] (.int .i64 0)) (hz : (k == 0) = false) (hkw : IntKind.i64.wrap (k - 1) = k - 1) (h6 : Ret 23 #[.string s, .int .i64 (k - 1)] (two ⟨#[]⟩ 22)) :
    Calls Tryz.prog 5 #[.agg #[.string fn, .string fd]] w fun e w' => e = .returned (.bool true) ∧ Below w.heap.size w w' := by
  have HAW := Lib.hid dawake_any
  have HL := Lib.hid hl
  have H1 := Lib.hid h1
  have H2 := Lib.hid h2
  have H3 := Lib.hid h3
  have H4 := Lib.hid h4
  have H5 := Lib.hid h5
  have H6 := Lib.hid h6
  clear hl h1 h2 h3 h4 h5 h6
  obtain ⟨W0, hW0⟩ : ∃ W0, W0 = w.alloc (.cells #[.string fn, .string fd] 24) := ⟨_, rfl⟩
  have hS : StL w W0 [(w.heap.size, fn, fd)] := by rw [hW0]; exact StL.one hG _ _
  go_enter Tryz.func5, Tryz.ntmps5
  go_upto_region 1 with fail
  rw [← hW0]
  clear hW0
  obtain ⟨fp0, _⟩ := hS.box
  obtain ⟨fx0, fy0, _, _⟩ := fp0.cells
  go_wp2_with fail
  clear fp0 fx0 fy0
  refine Calls.mono (rLongF fn fd _) ?_
  rintro _ w1 ⟨rfl, hB⟩
  replace hS := hS.next hB
  clear hB
  rw [HL.out]
  obtain ⟨fp0, _⟩ := hS.box
  obtain ⟨fx0, fy0, _, _⟩ := fp0.cells
  go_wp2_with fail
  clear fp0 fx0 fy0
  refine Calls.mono (Ret.call H1.out _ hS.g) ?_
  rintro _ w2 ⟨rfl, hB⟩
  replace hS := hS.next hB
  clear hB
  obtain ⟨fp0, _⟩ := hS.box
  obtain ⟨fx0, fy0, _, _⟩ := fp0.cells
  go_wp2_with fail
  clear fp0 fx0 fy0
  refine Calls.mono (Ret.call H2.out _ hS.g) ?_
  rintro _ w3 ⟨rfl, hB⟩
  replace hS := hS.next hB
  clear hB
  obtain ⟨fp0, _⟩ := hS.box
  obtain ⟨fx0, fy0, _, _⟩ := fp0.cells
  go_wp2_with fail
  clear fp0 fx0 fy0
  refine Calls.mono (Ret.call H3.out _ hS.g) ?_
  rintro _ w4 ⟨rfl, hB⟩
  replace hS := hS.next hB
  clear hB
  obtain ⟨fp0, _⟩ := hS.box
  obtain ⟨fx0, fy0, _, _⟩ := fp0.cells
  go_wp2_with fail
  clear fp0 fx0 fy0
  refine Calls.mono (Ret.call H4.out _ hS.g) ?_
  rintro _ w5 ⟨rfl, hB⟩
  replace hS := hS.next hB
  clear hB
  go_upto_region 11 with fail
  obtain ⟨b6, hb6⟩ : ∃ b, b = w5.heap.size := ⟨_, rfl⟩
  obtain ⟨V6, hV6⟩ : ∃ V, V = w5.alloc (.cells #[.string un, .string ud] 24) := ⟨_, rfl⟩
  have hT : StL w V6 [(b6, un, ud), (w.heap.size, fn, fd)] := by rw [hV6, hb6]; exact hS.alloc _ _
  rw [← hb6, ← hV6]
  clear hV6 hb6 hS
  have hS := hT
  clear hT
  obtain ⟨fp0, fp1, _⟩ := hS.box
  obtain ⟨fx0, fy0, _, _⟩ := fp0.cells
  obtain ⟨fx1, fy1, _, _⟩ := fp1.cells
  go_wp2_with fail
  clear fp0 fx0 fy0 fp1 fx1 fy1
  refine Calls.mono (Ret.call H5.out _ hS.g) ?_
  rintro _ w7 ⟨rfl, hB⟩
  replace hS := hS.next hB
  clear hB
  obtain ⟨fp0, fp1, _⟩ := hS.box
  obtain ⟨fx0, fy0, _, _⟩ := fp0.cells
  obtain ⟨fx1, fy1, _, _⟩ := fp1.cells
  go_wp2_with fail
  clear fp0 fx0 fy0 fp1 fx1 fy1
  refine Calls.mono (Ret.call H6.out _ hS.g) ?_
  rintro _ w8 ⟨rfl, hB⟩
  replace hS := hS.next hB
  clear hB
  obtain ⟨fp0, fp1, _⟩ := hS.box
  obtain ⟨fx0, fy0, _, _⟩ := fp0.cells
  obtain ⟨fx1, fy1, _, _⟩ := fp1.cells
  go_wp2_with fail
  clear fp0 fx0 fy0 fp1 fx1 fy1
  refine Calls.mono (Ret.call HAW.out _ hS.g) ?_
  rintro _ w9 ⟨rfl, hB⟩
  replace hS := hS.next hB
  clear hB
  obtain ⟨fp0, fp1, _⟩ := hS.box
  obtain ⟨fx0, fy0, _, _⟩ := fp0.cells
  obtain ⟨fx1, fy1, _, _⟩ := fp1.cells
  go_wp2_with fail
  go_ret
  exact ⟨rfl, hS.below⟩

theorem low_scaled {x : Int × Int} {t : Int} (hx : 0 < x.2) : mulP (low x) (t, 1) = mulP x (t, 1) := by rw [mulP_int hx, mulP_int']
/-- one place less: no integer -/
theorem fin_less {x : Int × Int} {p : Nat} {z : Int} (hx : 0 < x.2) (hf : ∀ q, (low x).2.toNat ∣ 10 ^ q ↔ p ≤ q) (hz : low (z, (10 : Int) ^ p) = low x) (hp : 1 ≤ p) : Int.fmod (z * (10 : Int) ^ (p - 1)) ((10 : Int) ^ p) ≠ 0 := by
  intro h
  rw [Int.fmod_def] at h
  have h1 : (mulP (low (z, (10 : Int) ^ p)) ((10 : Int) ^ (p - 1), 1)).2 = 1 := units_some.2 ⟨Int.fdiv (z * (10 : Int) ^ (p - 1)) ((10 : Int) ^ p), by rw [Int.mul_comm (Int.fdiv _ _)]; omega⟩
  rw [hz, finite_iff (Low.of_low hx), hf] at h1
  omega
theorem dfi_any (fn fd : ByteArray) (w : World) (hG : Ground w) :
    Calls Tryz.prog 5 #[.agg #[.string fn, .string fd]] w fun e w' => e = .returned (.bool true) ∧ Below w.heap.size w w' := by
  by_cases hs : fn.size ≤ 60 ∧ fd.size ≤ 60
  · obtain ⟨hn, hd⟩ := hs
    have hl := longF_false hn hd
    obtain ⟨x, hx⟩ : ∃ x, raw fn fd = x := ⟨_, rfl⟩
    have hv : Val fn fd x := ⟨hx, by omega, by omega⟩
    have hc : CapP 60 x := by rw [← hx]; exact CapP.of_raw (by decide) hn hd
    have hxp : 0 < x.2 := by rw [← hx]; exact raw_pos _ _
    have f1 := finite_any hv
    have f2 := kFinite_any hx (by omega) (by omega)
    have hd0 := low_pos hxp
    unfold finV at f1 f2
    cases hf : Num.fin (low x).2.toNat with
    | none =>
      rw [hf] at f1 f2
      exact dfi_no fn fd w hG hl f1 f2
    | some p =>
      rw [hf] at f1 f2
      have hfs := Num.fin_some (by omega) hf
      by_cases hp : 12 < p
      · exact dfi_far fn fd w hG hl f1 f2 (by omega)
      · have hp12 : p ≤ 12 := by omega
        obtain ⟨z, hz⟩ : ∃ z, rnd 3 (mulP x ((10 : Int) ^ p, 1)) = z := ⟨_, rfl⟩
        have s1 := scale_ok hv hc (by decide) hp12 (by decide) (by decide) hz
        have hcz : Cap 76 z := by
          rw [← hz]
          have h1 : CapP (60 + (p + 1)) (mulP x ((10 : Int) ^ p, 1)) := CapP.mul hc (tens_capP p) hxp Int.one_pos
          exact (rnd_cap h1.1 (mulP_pos hxp Int.one_pos)).mono (by omega)
        have hzs := cS_size hcz
        have t1 := text_ok (s := cS z) (z := z) (p := p) (by omega) (vS_cS z) hp12
        have hval : low (z, (10 : Int) ^ p) = low x := by
          have := finite_value (Low.of_low hxp) (p := p) 3 ((hfs p).2 (Nat.le_refl _))
          rwa [low_scaled hxp, hz] at this
        obtain ⟨S, hS⟩ : ∃ S, S = txt z p := ⟨_, rfl⟩
        have hSs : S.size ≤ 65536 := by rw [hS]; have := txt_size p hcz; omega
        have hSd : isDecS S = true := by rw [hS]; exact isDec_txt z p
        have hSu : unitsD S = z := by rw [hS]; exact units_txt z p
        have hSp : placesD S = p := by rw [hS]; exact places_txt z p
        have a3 : Ret 17 #[.agg #[.string fn, .string fd], .int .i64 (p : Int), .int .i64 3] (two S 0) := fun W hW => by rw [hS]; exact format_gen s1 t1 W hW
        have a4 := fraction_ok (x := low x) hSs hSd (by rw [hSu, hSp]; exact hval)
        have hlc := CapP.low hc hxp
        have hlv : Val (cS (low x).1) (cD (low x).2) (low x) := Val.of hlc hd0 (by decide)
        have hcm : cmpP x (low x) = 0 := by rw [← cmpP_low hxp hd0]; exact cmp_same _
        have a5 : Ret 29 #[.agg #[.string fn, .string fd], .agg #[.string (cS (low x).1), .string (cD (low x).2)]] (.int .i64 0) := fun W hW => fCompare_v W hW hv hlv hcm
        by_cases h0 : p = 0
        · exact dfi_zero fn fd w hG hl f1 f2 (by omega) a3 a4 a5 (by simp; omega)
        · have a6 : Ret 23 #[.string S, .int .i64 ((p : Int) - 1)] (two ⟨#[]⟩ 22) := by
            rw [show (p : Int) - 1 = ((p - 1 : Nat) : Int) by omega]
            exact dParse_inexact hSs hSd (by omega) (by rw [hSu, hSp]; exact fin_less hxp hfs hval (by omega))
          exact dfi_more fn fd w hG hl f1 f2 (by omega) a3 a4 a5 (by simp; omega) (IntWalk.i64_in _ (by omega)) a6
  · exact dfi_long fn fd w hG (longF_true (by omega))

end Go.Proofs.YtlonbfddhfacmaaGreatDoor
