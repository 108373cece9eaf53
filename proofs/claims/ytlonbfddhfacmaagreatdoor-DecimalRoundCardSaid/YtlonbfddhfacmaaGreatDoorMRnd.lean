/- the law DecimalRound: the walk. -/
import Derived.Test.YtlonbfddhfacmaaGreatDoorDG
import Derived.Test.YtlonbfddhfacmaaGreatDoorKA
namespace Go.Proofs.YtlonbfddhfacmaaGreatDoor
open Go.RowKit Fra

set_option maxRecDepth 100000 in
set_option maxHeartbeats 16000000 in
theorem drn_long (fn fd : ByteArray) (n m : Int) (w : World) (hG : Ground w) (hl : longF fn fd = true) :
    Calls Tryz.prog 3 #[.agg #[.string fn, .string fd], .int .i64 n, .int .i64 m] w fun e w' => e = .returned (.bool true) ∧ Below w.heap.size w w' := by
  have HL := Lib.hid hl
  have HAW := Lib.hid dawake_any
  clear hl
  obtain ⟨W0, hW0⟩ : ∃ W0, W0 = w.alloc (.cells #[.string fn, .string fd] 24) := ⟨_, rfl⟩
  have hS : StL w W0 [(w.heap.size, fn, fd)] := by rw [hW0]; exact StL.one hG _ _
  go_enter Tryz.func3, Tryz.ntmps3
  go_upto_region 1 with fail
  rw [← hW0]
  clear hW0
  obtain ⟨fp0, _⟩ := hS.box
  obtain ⟨fx0, fy0, _, _⟩ := fp0.cells
  go_wp2_with fail
  clear fp0 fx0 fy0
  refine Calls.mono (rLongF fn fd _) ?_
  rintro _ w1 ⟨rfl, hB⟩
  replace hS := hS.next hB
  clear hB
  rw [HL.out]
  obtain ⟨fp0, _⟩ := hS.box
  obtain ⟨fx0, fy0, _, _⟩ := fp0.cells
  go_wp2_with fail
  clear fp0 fx0 fy0
  refine Calls.mono (Ret.call HAW.out _ hS.g) ?_
  rintro _ w2 ⟨rfl, hB⟩
  replace hS := hS.next hB
  clear hB
  obtain ⟨fp0, _⟩ := hS.box
  obtain ⟨fx0, fy0, _, _⟩ := fp0.cells
  go_wp2_with fail
  go_ret
  exact ⟨rfl, hS.below⟩

set_option maxRecDepth 100000 in
set_option maxHeartbeats 16000000 in
theorem drn_gen (fn fd : ByteArray) (n m : Int) (w : World) (hG : Ground w) (hl : longF fn fd = false) {u v t : ByteArray} {e h j : Int} (h1 : Ret 13 #[.agg #[.string fn, .string fd], .int .i64 m] (two u e)) (h2 : Ret 14 #[.agg #[.string fn, .string fd], .int .i64 m] (two u e)) (h3 : Ret 15 #[.agg #[.string fn, .string fd], .int .i64 n, .int .i64 m] (two v h)) (h4 : Ret 16 #[.agg #[.string fn, .string fd], .int .i64 n, .int .i64 m] (two v h)) (h5 : Ret 17 #[.agg #[.string fn, .string fd], .int .i64 n, .int .i64 m] (two t j)) (h6 : Ret 18 #[.agg #[.string fn, .string fd], .int .i64 n, .int .i64 m] (two t j)) :
    Calls Tryz.prog 3 #[.agg #[.string fn, .string fd], .int .i64 n, .int .i64 m] w fun e w' => e = .returned (.bool true) ∧ Below w.heap.size w w' := by
  have HL := Lib.hid hl
  have HAW := Lib.hid dawake_any
  have H1 := Lib.hid h1
  have H2 := Lib.hid h2
  have H3 := Lib.hid h3
  have H4 := Lib.hid h4
  have H5 := Lib.hid h5
  have H6 := Lib.hid h6
  clear hl h1 h2 h3 h4 h5 h6
  obtain ⟨W0, hW0⟩ : ∃ W0, W0 = w.alloc (.cells #[.string fn, .string fd] 24) := ⟨_, rfl⟩
  have hS : StL w W0 [(w.heap.size, fn, fd)] := by rw [hW0]; exact StL.one hG _ _
  go_enter Tryz.func3, Tryz.ntmps3
  go_upto_region 1 with fail
  rw [← hW0]
  clear hW0
  obtain ⟨fp0, _⟩ := hS.box
  obtain ⟨fx0, fy0, _, _⟩ := fp0.cells
  go_wp2_with fail
  clear fp0 fx0 fy0
  refine Calls.mono (rLongF fn fd _) ?_
  rintro _ w1 ⟨rfl, hB⟩
  replace hS := hS.next hB
  clear hB
  rw [HL.out]
  obtain ⟨fp0, _⟩ := hS.box
  obtain ⟨fx0, fy0, _, _⟩ := fp0.cells
  go_wp2_with fail
  clear fp0 fx0 fy0
  refine Calls.mono (Ret.call H1.out _ hS.g) ?_
  rintro _ w2 ⟨rfl, hB⟩
  replace hS := hS.next hB
  clear hB
  obtain ⟨fp0, _⟩ := hS.box
  obtain ⟨fx0, fy0, _, _⟩ := fp0.cells
  go_wp2_with fail
  clear fp0 fx0 fy0
  refine Calls.mono (Ret.call H2.out _ hS.g) ?_
  rintro _ w3 ⟨rfl, hB⟩
  replace hS := hS.next hB
  clear hB
  obtain ⟨fp0, _⟩ := hS.box
  obtain ⟨fx0, fy0, _, _⟩ := fp0.cells
  go_wp2_with fail
  clear fp0 fx0 fy0
  refine Calls.mono (Ret.call H3.out _ hS.g) ?_
  rintro _ w4 ⟨rfl, hB⟩
  replace hS := hS.next hB
  clear hB
  obtain ⟨fp0, _⟩ := hS.box
  obtain ⟨fx0, fy0, _, _⟩ := fp0.cells
  go_wp2_with fail
  clear fp0 fx0 fy0
  refine Calls.mono (Ret.call H4.out _ hS.g) ?_
  rintro _ w5 ⟨rfl, hB⟩
  replace hS := hS.next hB
  clear hB
  obtain ⟨fp0, _⟩ := hS.box
  obtain ⟨fx0, fy0, _, _⟩ := fp0.cells
  go_wp2_with fail
  clear fp0 fx0 fy0
  refine Calls.mono (Ret.call H5.out _ hS.g) ?_
  rintro _ w6 ⟨rfl, hB⟩
  replace hS := hS.next hB
  clear hB
  obtain ⟨fp0, _⟩ := hS.box
  obtain ⟨fx0, fy0, _, _⟩ := fp0.cells
  go_wp2_with fail
  clear fp0 fx0 fy0
  refine Calls.mono (Ret.call H6.out _ hS.g) ?_
  rintro _ w7 ⟨rfl, hB⟩
  replace hS := hS.next hB
  clear hB
  obtain ⟨fp0, _⟩ := hS.box
  obtain ⟨fx0, fy0, _, _⟩ := fp0.cells
  go_wp2_with fail
  clear fp0 fx0 fy0
  refine Calls.mono (Ret.call HAW.out _ hS.g) ?_
  rintro _ w8 ⟨rfl, hB⟩
  replace hS := hS.next hB
  clear hB
  obtain ⟨fp0, _⟩ := hS.box
  obtain ⟨fx0, fy0, _, _⟩ := fp0.cells
  go_wp2_with fail
  go_ret
  exact ⟨rfl, hS.below⟩

theorem drn_any (fn fd : ByteArray) (n m : Int) (w : World) (hG : Ground w) :
    Calls Tryz.prog 3 #[.agg #[.string fn, .string fd], .int .i64 n, .int .i64 m] w fun e w' => e = .returned (.bool true) ∧ Below w.heap.size w w' := by
  by_cases hs : fn.size ≤ 60 ∧ fd.size ≤ 60
  · obtain ⟨hn, hd⟩ := hs
    have hl := longF_false hn hd
    obtain ⟨x, hx⟩ : ∃ x, raw fn fd = x := ⟨_, rfl⟩
    have hv : Val fn fd x := ⟨hx, by omega, by omega⟩
    have hc : CapP 60 x := by rw [← hx]; exact CapP.of_raw (by decide) hn hd
    have hxp : 0 < x.2 := by rw [← hx]; exact raw_pos _ _
    have ferr : ∀ {u : ByteArray} {c : Int}, Ret 15 #[.agg #[.string fn, .string fd], .int .i64 n, .int .i64 m] (two u c) → c ≠ 0 → Ret 17 #[.agg #[.string fn, .string fd], .int .i64 n, .int .i64 m] (two ⟨#[]⟩ c) := fun h1 h2 => format_err h1 h2
    by_cases hm : m < 1 ∨ 6 < m
    · have r1 := round_bad hv hm
      have r2 := kRound_bad (fn := fn) (fd := fd) hm
      cases hp : okP n with
      | false =>
        have s1 := scale_range fn fd m hp
        have s2 := kScale_range (fn := fn) (fd := fd) (m := m) hp
        exact drn_gen fn fd n m w hG hl r1 r2 s1 s2 (ferr s1 (by decide)) (kFormat_err s2 (by decide))
      | true =>
        have h12 := okP_iff.1 hp
        obtain ⟨p, rfl⟩ : ∃ p : Nat, n = p := ⟨n.toNat, by omega⟩
        have s1 := scale_bad hv hc (by decide) (p := p) (by omega) hm
        have s2 := kScale_bad (fn := fn) (fd := fd) hp hm
        exact drn_gen fn fd p m w hG hl r1 r2 s1 s2 (ferr s1 (by decide)) (kFormat_err s2 (by decide))
    · have h1 : 1 ≤ m := by omega
      have h6 : m ≤ 6 := by omega
      have r1 := round_ok hv h1 h6 rfl
      have r2 := kRound_ok (fn := fn) (fd := fd) (z := rnd m x) (by omega) (by omega) h1 h6 (by rw [hx])
      cases hp : okP n with
      | false =>
        have s1 := scale_range fn fd m hp
        have s2 := kScale_range (fn := fn) (fd := fd) (m := m) hp
        exact drn_gen fn fd n m w hG hl r1 r2 s1 s2 (ferr s1 (by decide)) (kFormat_err s2 (by decide))
      | true =>
        have h12 := okP_iff.1 hp
        obtain ⟨p, rfl⟩ : ∃ p : Nat, n = p := ⟨n.toNat, by omega⟩
        have hp12 : p ≤ 12 := by omega
        obtain ⟨z, hz⟩ : ∃ z, rnd m (mulP x ((10 : Int) ^ p, 1)) = z := ⟨_, rfl⟩
        have s1 := scale_ok hv hc (by decide) hp12 h1 h6 hz
        have s2 := kScale_ok (fn := fn) (fd := fd) (z := z) (by omega) (by omega) hp12 h1 h6 (by rw [hx, hz])
        have hcz : Cap 76 z := by
          rw [← hz]
          have h1 : CapP (60 + (p + 1)) (mulP x ((10 : Int) ^ p, 1)) := CapP.mul hc (tens_capP p) hxp Int.one_pos
          exact (rnd_cap h1.1 (mulP_pos hxp Int.one_pos)).mono (by omega)
        have hzs := cS_size hcz
        have t1 := text_ok (s := cS z) (z := z) (p := p) (by omega) (vS_cS z) hp12
        exact drn_gen fn fd p m w hG hl r1 r2 s1 s2 (fun W hW => format_gen s1 t1 W hW) (kFormat_ok s2 hp12 (by omega))
  · exact drn_long fn fd n m w hG (longF_true (by omega))

end Go.Proofs.YtlonbfddhfacmaaGreatDoor
