/- the law DecimalDistance: the walk. -/
import Derived.Test.YtlonbfddhfacmaaGreatDoorDE
import Derived.Deep.DeepCutAuto
import Derived.Laws.NewBlocks
import Derived.Deep.RegionWith
namespace Go.Proofs.YtlonbfddhfacmaaGreatDoor
open Go.RowKit Fra

theorem longF_false {n d : ByteArray} (hn : n.size ≤ 60) (hd : d.size ≤ 60) : longF n d = false := by
  unfold longF
  rw [longS_false (by omega), longS_false (by omega)]
  rfl
theorem longF_true {n d : ByteArray} (h : 60 < n.size ∨ 60 < d.size) : longF n d = true := by
  unfold longF
  rcases h with h | h
  · rw [longS_true h]; rfl
  · rw [longS_true h, Bool.or_true]
theorem rnd_cap {k : Nat} {m : Int} {x : Int × Int} (h : Cap k x.1) (hx : 0 < x.2) : Cap (k + 2) (rnd m x) := by
  have h1 := Cap.fdiv' h hx
  rcases rnd_range m (x := x) with e | e
  · rw [e]; exact h1.mono (by omega)
  · rw [e]; exact Cap.add h1 (Cap.one (by omega))
theorem dist_whole {x : Int × Int} {q : Int} (h : (low x).2 = 1 → cmpP x (q, 1) = 0) (h0 : 0 < (low x).2) : (Hid (cmpP x (q, 1) = 0) ∧ Hid (cmp3 (low x).2 1 = 0)) ∨ Hid (cmp3 (low x).2 1 = 1) := by
  by_cases hw : (low x).2 = 1
  · exact Or.inl ⟨Lib.hid (h hw), Lib.hid ((cmp3_zero _ _).2 hw)⟩
  · exact Or.inr (Lib.hid (cmp3_gt (by omega)))
theorem check_ret {z : Int} {k : Nat} (h : Cap k z) (hk : k ≤ 1000) : Ret 35 #[.string (cS z)] (.int .i64 0) := Ret.of_same fun W => check_v W (by have := cS_size h; omega)

set_option maxRecDepth 100000 in
set_option maxHeartbeats 16000000 in
theorem ddi_long (fn fd : ByteArray) (m : Int) (w : World) (hG : Ground w) (hl : longF fn fd = true) :
    Calls Tryz.prog 6 #[.agg #[.string fn, .string fd], .int .i64 m] w fun e w' => e = .returned (.bool true) ∧ Below w.heap.size w w' := by
  have HL := Lib.hid hl
  have HAW := Lib.hid dawake_any
  clear hl
  obtain ⟨W0, hW0⟩ : ∃ W0, W0 = w.alloc (.cells #[.string fn, .string fd] 24) := ⟨_, rfl⟩
  have hS : StL w W0 [(w.heap.size, fn, fd)] := by rw [hW0]; exact StL.one hG _ _
  go_enter Tryz.func6, Tryz.ntmps6
  go_upto_region 1 with fail
  rw [← hW0]
  clear hW0
  obtain ⟨fp0, _⟩ := hS.box
  obtain ⟨fx0, fy0, _, _⟩ := fp0.cells
  go_wp2_with fail
  clear fp0 fx0 fy0
  refine Calls.mono (rLongF fn fd _) ?_
  rintro _ w1 ⟨rfl, hB⟩
  replace hS := hS.next hB
  clear hB
  rw [HL.out]
  obtain ⟨fp0, _⟩ := hS.box
  obtain ⟨fx0, fy0, _, _⟩ := fp0.cells
  go_wp2_with fail
  clear fp0 fx0 fy0
  refine Calls.mono (Ret.call HAW.out _ hS.g) ?_
  rintro _ w2 ⟨rfl, hB⟩
  replace hS := hS.next hB
  clear hB
  obtain ⟨fp0, _⟩ := hS.box
  obtain ⟨fx0, fy0, _, _⟩ := fp0.cells
  go_wp2_with fail
  go_ret
  exact ⟨rfl, hS.below⟩

set_option maxRecDepth 100000 in
set_option maxHeartbeats 16000000 in
theorem ddi_lo (fn fd : ByteArray) (m : Int) (w : World) (hG : Ground w) (hn : fn.size ≤ 60) (hd : fd.size ≤ 60) (hl : longF fn fd = false) (h1 : m < 1) :
    Calls Tryz.prog 6 #[.agg #[.string fn, .string fd], .int .i64 m] w fun e w' => e = .returned (.bool true) ∧ Below w.heap.size w w' := by
  have HR := Lib.hid (round_bad (n := fn) (d := fd) (x := raw fn fd) (m := m) ⟨rfl, by omega, by omega⟩ (by omega))
  have HL := Lib.hid hl
  have HAW := Lib.hid dawake_any
  clear hl
  obtain ⟨W0, hW0⟩ : ∃ W0, W0 = w.alloc (.cells #[.string fn, .string fd] 24) := ⟨_, rfl⟩
  have hS : StL w W0 [(w.heap.size, fn, fd)] := by rw [hW0]; exact StL.one hG _ _
  go_enter Tryz.func6, Tryz.ntmps6
  go_upto_region 1 with fail
  rw [← hW0]
  clear hW0
  obtain ⟨fp0, _⟩ := hS.box
  obtain ⟨fx0, fy0, _, _⟩ := fp0.cells
  go_wp2_with fail
  clear fp0 fx0 fy0
  refine Calls.mono (rLongF fn fd _) ?_
  rintro _ w1 ⟨rfl, hB⟩
  replace hS := hS.next hB
  clear hB
  rw [HL.out]
  obtain ⟨fp0, _⟩ := hS.box
  obtain ⟨fx0, fy0, _, _⟩ := fp0.cells
  go_wp2_with fail
  clear fp0 fx0 fy0
  refine Calls.mono (Ret.call HR.out _ hS.g) ?_
  rintro _ w2 ⟨rfl, hB⟩
  replace hS := hS.next hB
  clear hB
  obtain ⟨fp0, _⟩ := hS.box
  obtain ⟨fx0, fy0, _, _⟩ := fp0.cells
  go_wp2_with fail
  clear fp0 fx0 fy0
  refine Calls.mono (Ret.call HAW.out _ hS.g) ?_
  rintro _ w3 ⟨rfl, hB⟩
  replace hS := hS.next hB
  clear hB
  obtain ⟨fp0, _⟩ := hS.box
  obtain ⟨fx0, fy0, _, _⟩ := fp0.cells
  go_wp2_with fail
  go_ret
  exact ⟨rfl, hS.below⟩

set_option maxRecDepth 100000 in
set_option maxHeartbeats 16000000 in
theorem ddi_hi (fn fd : ByteArray) (m : Int) (w : World) (hG : Ground w) (hn : fn.size ≤ 60) (hd : fd.size ≤ 60) (hl : longF fn fd = false) (h1 : ¬ m < 1) (h2 : 6 < m) :
    Calls Tryz.prog 6 #[.agg #[.string fn, .string fd], .int .i64 m] w fun e w' => e = .returned (.bool true) ∧ Below w.heap.size w w' := by
  have HR := Lib.hid (round_bad (n := fn) (d := fd) (x := raw fn fd) (m := m) ⟨rfl, by omega, by omega⟩ (by omega))
  have HL := Lib.hid hl
  have HAW := Lib.hid dawake_any
  clear hl
  obtain ⟨W0, hW0⟩ : ∃ W0, W0 = w.alloc (.cells #[.string fn, .string fd] 24) := ⟨_, rfl⟩
  have hS : StL w W0 [(w.heap.size, fn, fd)] := by rw [hW0]; exact StL.one hG _ _
  go_enter Tryz.func6, Tryz.ntmps6
  go_upto_region 1 with fail
  rw [← hW0]
  clear hW0
  obtain ⟨fp0, _⟩ := hS.box
  obtain ⟨fx0, fy0, _, _⟩ := fp0.cells
  go_wp2_with fail
  clear fp0 fx0 fy0
  refine Calls.mono (rLongF fn fd _) ?_
  rintro _ w1 ⟨rfl, hB⟩
  replace hS := hS.next hB
  clear hB
  rw [HL.out]
  obtain ⟨fp0, _⟩ := hS.box
  obtain ⟨fx0, fy0, _, _⟩ := fp0.cells
  go_wp2_with fail
  clear fp0 fx0 fy0
  refine Calls.mono (Ret.call HR.out _ hS.g) ?_
  rintro _ w2 ⟨rfl, hB⟩
  replace hS := hS.next hB
  clear hB
  obtain ⟨fp0, _⟩ := hS.box
  obtain ⟨fx0, fy0, _, _⟩ := fp0.cells
  go_wp2_with fail
  clear fp0 fx0 fy0
  refine Calls.mono (Ret.call HAW.out _ hS.g) ?_
  rintro _ w3 ⟨rfl, hB⟩
  replace hS := hS.next hB
  clear hB
  obtain ⟨fp0, _⟩ := hS.box
  obtain ⟨fx0, fy0, _, _⟩ := fp0.cells
  go_wp2_with fail
  go_ret
  exact ⟨rfl, hS.below⟩

end Go.Proofs.YtlonbfddhfacmaaGreatDoor
