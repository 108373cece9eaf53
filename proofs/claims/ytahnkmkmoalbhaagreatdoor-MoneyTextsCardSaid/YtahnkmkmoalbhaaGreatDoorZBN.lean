/- The reference of layer 5: Text: the walk, over a contract of layer 3's TextOf. -/
import Derived.Test.YtahnkmkmoalbhaaGreatDoorZBM
import Derived.Carry
import Derived.Deep.SlicePairs
import Derived.Deep.Strs
import Derived.Lib.SmallJoins
import Derived.OpenShut
import Derived.ProofKit
namespace Go.Proofs.YtahnkmkmoalbhaaGreatDoor
open Go.RowKit

theorem TwoAt.lt {w : World} {b : Nat} {t : TypeId} {x y : Value} (h : TwoAt w b t x y) : b < w.heap.size := by
  unfold TwoAt at h
  rcases Nat.lt_or_ge b w.heap.size with h' | h'
  · exact h'
  · rw [Array.getElem?_eq_none h'] at h; simp at h
theorem TwoAt.below {w w' : World} {b : Nat} {t : TypeId} {x y : Value} (h : TwoAt w b t x y) (hb : Below w.heap.size w w') : TwoAt w' b t x y := by
  have hl := h.lt
  unfold TwoAt at *; rw [hb.block b hl]; exact h
/-- a string and an error -/
def strE (u : ByteArray) (e : Int) : Value := .tuple #[.string u, .int .i64 e]
set_option maxRecDepth 100000 in
set_option maxHeartbeats 16000000 in
theorem rText_tab (w : World) (xa : Option Addr) (n cap : Nat) (c : Nat → ByteArray) (p : Nat → Int) (x z : ByteArray) (hr : Rt w xa n c p) (hf : FitT n c) (h : tabE n c p ≠ 0) :
    Calls Tryz.prog 32 #[.slice xa n cap, .agg #[.string x, .string z]] w fun e w' => e = .returned (strE ⟨#[]⟩ 1) ∧ Below w.heap.size w w' := by
  have HCK := Lib.hid (rTab (w.alloc (.cells #[.string x, .string z] 35)) xa n cap c p (hr.alloc _) hf)
  obtain ⟨W0, hW0⟩ : ∃ W, W = w.alloc (.cells #[.string x, .string z] 35) := ⟨_, rfl⟩
  have HX := Lib.hid (show PairAt W0 w.heap.size 35 x z by rw [hW0]; exact PairAt.made _ _ _ _)
  have HB := Lib.hid (show Below w.heap.size w W0 by rw [hW0]; exact (Below.refl _ _).alloc (Nat.le_refl _) _)
  rw [← hW0] at HCK
  obtain ⟨d, hd⟩ : ∃ d, tabE n c p = d := ⟨_, rfl⟩
  rw [hd] at HCK h
  have hb : (d != 0) = true := by rw [bne_iff_ne]; exact h
  unfold strE
  clear hd h hr hf
  go_enter Tryz.func32, Tryz.ntmps32
  go_upto_region 1 with fail
  rw [← hW0]
  clear hW0
  go_wp2_with fail
  refine HCK.out.mono ?_
  rintro _ _ ⟨rfl, q, rfl⟩
  go_wp2_with fail
  go_ret2
  exact ⟨rfl, below_drewN HB.out q⟩

set_option maxRecDepth 100000 in
set_option maxHeartbeats 16000000 in
theorem rText_cur (w : World) (xa : Option Addr) (n cap : Nat) (c : Nat → ByteArray) (p : Nat → Int) (x z : ByteArray) (hr : Rt w xa n c p) (hf : FitT n c) (h : tabE n c p = 0) (h1 : curI n c x = none) :
    Calls Tryz.prog 32 #[.slice xa n cap, .agg #[.string x, .string z]] w fun e w' => e = .returned (strE ⟨#[]⟩ 12) ∧ Below w.heap.size w w' := by
  have HCK := Lib.hid (rTab (w.alloc (.cells #[.string x, .string z] 35)) xa n cap c p (hr.alloc _) hf)
  obtain ⟨W0, hW0⟩ : ∃ W, W = w.alloc (.cells #[.string x, .string z] 35) := ⟨_, rfl⟩
  have HX := Lib.hid (show PairAt W0 w.heap.size 35 x z by rw [hW0]; exact PairAt.made _ _ _ _)
  have HB := Lib.hid (show Below w.heap.size w W0 by rw [hW0]; exact (Below.refl _ _).alloc (Nat.le_refl _) _)
  rw [← hW0] at HCK
  rw [h] at HCK
  have hmax := hf.max
  have HFI := Lib.hid (fun q => rFind (W0.drewN q) xa n cap c p x ((show Rt W0 xa n c p by rw [hW0]; exact hr.alloc _).drewN q) (by omega))
  rw [h1] at HFI
  unfold strE
  unfold curV at HFI
  dsimp only at HFI
  clear h h1 hr hf hmax
  go_enter Tryz.func32, Tryz.ntmps32
  go_upto_region 1 with fail
  rw [← hW0]
  clear hW0
  go_wp2_with fail
  refine HCK.out.mono ?_
  rintro _ _ ⟨rfl, q, rfl⟩
  have HX2 := Lib.hid (show PairAt (W0.drewN q) w.heap.size 35 x z from HX.out)
  obtain ⟨q1, q2, _, _⟩ := HX2.out.cells
  go_wp2_with fail
  refine (HFI.out q).mono ?_
  rintro _ w2 ⟨rfl, hB⟩
  have HB2 := Lib.hid ((below_drewN HB.out q).trans (hB.mono (below_drewN HB.out q).size))
  have HB3 := Lib.hid (HB2.out.alloc HB2.out.size (.cells #[.string ⟨#[]⟩, .int .i64 0] 26))
  clear hB q1 q2 HX2 HX HFI
  go_wp2_with fail
  go_ret2
  exact ⟨rfl, HB3.out⟩

set_option maxRecDepth 100000 in
set_option maxHeartbeats 16000000 in
theorem rText_can (w : World) (xa : Option Addr) (n cap : Nat) (c : Nat → ByteArray) (p : Nat → Int) (x z : ByteArray) (hr : Rt w xa n c p) (hf : FitT n c) (hz : z.size ≤ 1000) {i : Nat} (h : tabE n c p = 0) (h1 : curI n c x = some i) (h2 : isCan z = false) :
    Calls Tryz.prog 32 #[.slice xa n cap, .agg #[.string x, .string z]] w fun e w' => e = .returned (strE ⟨#[]⟩ 1) ∧ Below w.heap.size w w' := by
  have HCK := Lib.hid (rTab (w.alloc (.cells #[.string x, .string z] 35)) xa n cap c p (hr.alloc _) hf)
  obtain ⟨W0, hW0⟩ : ∃ W, W = w.alloc (.cells #[.string x, .string z] 35) := ⟨_, rfl⟩
  have HX := Lib.hid (show PairAt W0 w.heap.size 35 x z by rw [hW0]; exact PairAt.made _ _ _ _)
  have HB := Lib.hid (show Below w.heap.size w W0 by rw [hW0]; exact (Below.refl _ _).alloc (Nat.le_refl _) _)
  rw [← hW0] at HCK
  rw [h] at HCK
  have hmax := hf.max
  have HFI := Lib.hid (fun q => rFind (W0.drewN q) xa n cap c p x ((show Rt W0 xa n c p by rw [hW0]; exact hr.alloc _).drewN q) (by omega))
  rw [h1] at HFI
  have HCA := Lib.hid (fun W => rCheck_any z W (by omega))
  unfold strE
  unfold curV at HFI
  dsimp only at HFI
  obtain ⟨ci, hci⟩ : ∃ y, c i = y := ⟨_, rfl⟩
  obtain ⟨pi, hpi⟩ : ∃ y, p i = y := ⟨_, rfl⟩
  rw [hci, hpi] at HFI
  rw [show chk z = 1 by unfold chk; rw [h2]; rfl] at HCA
  clear h h1 h2 hr hf hmax hci hpi
  go_enter Tryz.func32, Tryz.ntmps32
  go_upto_region 1 with fail
  rw [← hW0]
  clear hW0
  go_wp2_with fail
  refine HCK.out.mono ?_
  rintro _ _ ⟨rfl, q, rfl⟩
  have HX2 := Lib.hid (show PairAt (W0.drewN q) w.heap.size 35 x z from HX.out)
  obtain ⟨q1, q2, _, _⟩ := HX2.out.cells
  go_wp2_with fail
  refine (HFI.out q).mono ?_
  rintro _ w2 ⟨rfl, hB⟩
  have hbb := below_drewN HB.out q
  have HX3 := Lib.hid ((HX2.out.below hB).alloc (.cells #[.string ci, .int .i64 pi] 26))
  have HB3 := Lib.hid ((hbb.trans (hB.mono hbb.size)).alloc (hbb.trans (hB.mono hbb.size)).size (.cells #[.string ci, .int .i64 pi] 26))
  obtain ⟨S6, hS6⟩ : ∃ s, w2.heap.size = s := ⟨_, rfl⟩
  obtain ⟨W3, hW3⟩ : ∃ W, W = w2.alloc (.cells #[.string ci, .int .i64 pi] 26) := ⟨_, rfl⟩
  have HT := Lib.hid (show TwoAt W3 S6 26 (.string ci) (.int .i64 pi) by rw [hW3, ← hS6]; exact TwoAt.made _ _ _ _)
  rw [← hW3] at HX3 HB3
  clear hB q1 q2 HX2 HX HFI hbb
  go_upto_region 4 with fail
  rw [← hW3]
  try rw [hS6]
  clear hW3
  obtain ⟨q1, q2, _, _⟩ := HX3.out.cells
  obtain ⟨q3, q4, _, _⟩ := HT.out.cells
  go_wp2_with fail
  refine (HCA.out _).mono ?_
  rintro _ _ ⟨rfl, rfl⟩
  go_wp2_with fail
  go_ret2
  exact ⟨rfl, HB3.out⟩

set_option maxRecDepth 100000 in
set_option maxHeartbeats 16000000 in
theorem rText_ok (w : World) (hG : Ground w) (xa : Option Addr) (n cap : Nat) (c : Nat → ByteArray) (p : Nat → Int) (x z : ByteArray) (hr : Rt w xa n c p) (hf : FitT n c) (hz : z.size ≤ 1000) {i : Nat} (h : tabE n c p = 0) (h1 : curI n c x = some i) (h2 : isCan z = true) (tx : ByteArray) (htx : tx.size ≤ 2000) (hxs : x.size ≤ 2000) (hT : ∀ W, Ground W → Calls Tryz.prog 62 #[.string z, .int .i64 (p i)] W fun e w' => e = .returned (.string tx) ∧ Below W.heap.size W w') :
    Calls Tryz.prog 32 #[.slice xa n cap, .agg #[.string x, .string z]] w fun e w' => e = .returned (strE (tx ++ ⟨#[32]⟩ ++ x) 0) ∧ Below w.heap.size w w' := by
  have HCK := Lib.hid (rTab (w.alloc (.cells #[.string x, .string z] 35)) xa n cap c p (hr.alloc _) hf)
  obtain ⟨W0, hW0⟩ : ∃ W, W = w.alloc (.cells #[.string x, .string z] 35) := ⟨_, rfl⟩
  have HX := Lib.hid (show PairAt W0 w.heap.size 35 x z by rw [hW0]; exact PairAt.made _ _ _ _)
  have HB := Lib.hid (show Below w.heap.size w W0 by rw [hW0]; exact (Below.refl _ _).alloc (Nat.le_refl _) _)
  rw [← hW0] at HCK
  rw [h] at HCK
  have hmax := hf.max
  have HFI := Lib.hid (fun q => rFind (W0.drewN q) xa n cap c p x ((show Rt W0 xa n c p by rw [hW0]; exact hr.alloc _).drewN q) (by omega))
  rw [h1] at HFI
  have HCA := Lib.hid (fun W => rCheck_any z W (by omega))
  unfold strE
  unfold curV at HFI
  dsimp only at HFI
  obtain ⟨ci, hci⟩ : ∃ y, c i = y := ⟨_, rfl⟩
  obtain ⟨pi, hpi⟩ : ∃ y, p i = y := ⟨_, rfl⟩
  rw [hci, hpi] at HFI
  rw [show chk z = 0 by unfold chk; rw [h2]; rfl] at HCA
  rw [hpi] at hT
  have HTO := Lib.hid hT
  have HG := Lib.hid hG
  clear h h1 h2 hr hf hmax hci hpi hT hG
  go_enter Tryz.func32, Tryz.ntmps32
  go_upto_region 1 with fail
  rw [← hW0]
  clear hW0
  go_wp2_with fail
  refine HCK.out.mono ?_
  rintro _ _ ⟨rfl, q, rfl⟩
  have HX2 := Lib.hid (show PairAt (W0.drewN q) w.heap.size 35 x z from HX.out)
  obtain ⟨q1, q2, _, _⟩ := HX2.out.cells
  go_wp2_with fail
  refine (HFI.out q).mono ?_
  rintro _ w2 ⟨rfl, hB⟩
  have hbb := below_drewN HB.out q
  have HX3 := Lib.hid ((HX2.out.below hB).alloc (.cells #[.string ci, .int .i64 pi] 26))
  have HB3 := Lib.hid ((hbb.trans (hB.mono hbb.size)).alloc (hbb.trans (hB.mono hbb.size)).size (.cells #[.string ci, .int .i64 pi] 26))
  obtain ⟨S6, hS6⟩ : ∃ s, w2.heap.size = s := ⟨_, rfl⟩
  obtain ⟨W3, hW3⟩ : ∃ W, W = w2.alloc (.cells #[.string ci, .int .i64 pi] 26) := ⟨_, rfl⟩
  have HT := Lib.hid (show TwoAt W3 S6 26 (.string ci) (.int .i64 pi) by rw [hW3, ← hS6]; exact TwoAt.made _ _ _ _)
  rw [← hW3] at HX3 HB3
  clear hB q1 q2 HX2 HX HFI hbb
  go_upto_region 4 with fail
  rw [← hW3]
  try rw [hS6]
  clear hW3
  obtain ⟨q1, q2, _, _⟩ := HX3.out.cells
  obtain ⟨q3, q4, _, _⟩ := HT.out.cells
  go_wp2_with fail
  refine (HCA.out _).mono ?_
  rintro _ _ ⟨rfl, rfl⟩
  go_wp2_with fail
  refine wp_region_held_drew (S := fun w' => w'.cell? ⟨w.heap.size, 0, none⟩ = some (.string x) ∧ w'.cell? ⟨w.heap.size, 1, none⟩ = some (.string z) ∧ w'.cell? ⟨S6, 0, none⟩ = some (.string ci) ∧ w'.cell? ⟨S6, 1, none⟩ = some (.int .i64 pi)) (by kernel_rfl) (by (try dsimp only); go_keep) (fun hHeld => ?_)
  refine wpAnyH_take (i := 0) (oi := { dst := some 24, op := Op.fieldAddr 35 (Operand.tmp 3) 1, type := 0, pos := "ref.go:164", after := #[], guard := none }) (v := ?_) rfl (by kernel_rfl) (by kernel_rfl) (by kernel_rfl) (fun _ _ _ h => h) (Or.inl ⟨by rfl, ?_⟩) (by assumption) ?_
  rotate_left
  focus ((intro w hSw; (try dsimp only at hSw); go_simp); (try with_reducible rfl))
  try simp only [Act.put, List.setIfInBounds_toArray, List.set_cons_zero, List.set_cons_succ]
  refine wpAnyH_take (i := 1) (oi := { dst := some 25, op := Op.load 33 (Operand.tmp 24), type := 33, pos := "ref.go:164", after := #[{ on := 0, ground := Ground.data }], guard := none }) (v := ?_) rfl (by kernel_rfl) (by kernel_rfl) (by kernel_rfl) (fun _ _ _ h => h) (Or.inl ⟨by rfl, ?_⟩) (by assumption) ?_
  rotate_left
  focus ((intro w hSw; (try dsimp only at hSw); go_simp); (try with_reducible rfl))
  try simp only [Act.put, List.setIfInBounds_toArray, List.set_cons_zero, List.set_cons_succ]
  refine wpAnyH_take (i := 2) (oi := { dst := some 26, op := Op.fieldAddr 26 (Operand.tmp 6) 1, type := 0, pos := "ref.go:164", after := #[], guard := none }) (v := ?_) rfl (by kernel_rfl) (by kernel_rfl) (by kernel_rfl) (fun _ _ _ h => h) (Or.inl ⟨by rfl, ?_⟩) (by assumption) ?_
  rotate_left
  focus ((intro w hSw; (try dsimp only at hSw); go_simp); (try with_reducible rfl))
  try simp only [Act.put, List.setIfInBounds_toArray, List.set_cons_zero, List.set_cons_succ]
  refine wpAnyH_take (i := 3) (oi := { dst := some 27, op := Op.load 3 (Operand.tmp 26), type := 3, pos := "ref.go:164", after := #[{ on := 2, ground := Ground.data }], guard := none }) (v := ?_) rfl (by kernel_rfl) (by kernel_rfl) (by kernel_rfl) (fun _ _ _ h => h) (Or.inl ⟨by rfl, ?_⟩) (by assumption) ?_
  rotate_left
  focus ((intro w hSw; (try dsimp only at hSw); go_simp); (try with_reducible rfl))
  try simp only [Act.put, List.setIfInBounds_toArray, List.set_cons_zero, List.set_cons_succ]
  refine wpAnyH_take (i := 6) (oi := { dst := some 30, op := Op.fieldAddr 35 (Operand.tmp 3) 0, type := 0, pos := "ref.go:164", after := #[], guard := none }) (v := ?_) rfl (by kernel_rfl) (by kernel_rfl) (by kernel_rfl) (fun _ _ _ h => h) (Or.inl ⟨by rfl, ?_⟩) (by assumption) ?_
  rotate_left
  focus ((intro w hSw; (try dsimp only at hSw); go_simp); (try with_reducible rfl))
  try simp only [Act.put, List.setIfInBounds_toArray, List.set_cons_zero, List.set_cons_succ]
  refine wpAnyH_take (i := 7) (oi := { dst := some 31, op := Op.load 9 (Operand.tmp 30), type := 9, pos := "ref.go:164", after := #[{ on := 6, ground := Ground.data }], guard := none }) (v := ?_) rfl (by kernel_rfl) (by kernel_rfl) (by kernel_rfl) (fun _ _ _ h => h) (Or.inl ⟨by rfl, ?_⟩) (by assumption) ?_
  rotate_left
  focus ((intro w hSw; (try dsimp only at hSw); go_simp); (try with_reducible rfl))
  try simp only [Act.put, List.setIfInBounds_toArray, List.set_cons_zero, List.set_cons_succ]
  refine wpAnyH_ready (rs := [4]) (by kernel_rfl) (by simp) ?_
  refine AllReadyH.cons (o := { dst := some 28, op := Op.call { callee := Callee.value (Operand.func 62), args := #[Operand.tmp 25, Operand.tmp 27], argTypes := #[33, 3] }, type := 9, pos := "ref.go:164", after := #[{ on := 1, ground := Ground.data }, { on := 3, ground := Ground.data }], guard := none }) rfl (fun K hK => ?_) AllReadyH.nil
  clear hHeld
  go_simp
  refine (HTO.out _ (HG.out.below (below_drew HB3.out))).mono ?_
  rintro _ w4 ⟨rfl, hB1⟩
  have HX4 := Lib.hid (show PairAt w4 w.heap.size 35 x z from PairAt.below (w := W3.drew) HX3.out hB1)
  have HT4 := Lib.hid (show TwoAt w4 S6 26 (.string ci) (.int .i64 pi) from TwoAt.below (w := W3.drew) HT.out hB1)
  have HB4 := Lib.hid ((below_drew HB3.out).trans (hB1.mono HB3.out.size))
  clear q1 q2 q3 q4 hB1
  obtain ⟨q1, q2, _, _⟩ := HX4.out.cells
  obtain ⟨q3, q4, _, _⟩ := HT4.out.cells
  go_wp2_with fail
  refine hK.out _ _ (by (try dsimp only); go_keep) (fun hHeld => ?_)
  clear hK K
  try simp only [Act.put, List.setIfInBounds_toArray, List.set_cons_zero, List.set_cons_succ]
  refine wpAnyH_ready (rs := [5]) (by kernel_rfl) (by simp) ?_
  refine AllReadyH.cons (o := { dst := some 29, op := Op.binOp BinOp.add 9 (Operand.tmp 28) (Operand.const (Value.string { data := #[32] })) 9, type := 9, pos := "ref.go:164", after := #[{ on := 4, ground := Ground.data }], guard := none }) rfl (fun K hK => ?_) AllReadyH.nil
  clear hHeld
  go_simp
  rw [if_neg (by omega)]
  go_simp
  refine hK.out _ _ (by (try dsimp only); go_keep) (fun hHeld => ?_)
  clear hK K
  try simp only [Act.put, List.setIfInBounds_toArray, List.set_cons_zero, List.set_cons_succ]
  refine wpAnyH_ready (rs := [8]) (by kernel_rfl) (by simp) ?_
  refine AllReadyH.cons (o := { dst := some 32, op := Op.binOp BinOp.add 9 (Operand.tmp 29) (Operand.tmp 31) 9, type := 9, pos := "ref.go:164", after := #[{ on := 5, ground := Ground.data }, { on := 7, ground := Ground.data }], guard := none }) rfl (fun K hK => ?_) AllReadyH.nil
  clear hHeld
  go_simp
  rw [if_neg (by simp; omega)]
  go_simp
  refine hK.out _ _ (by (try dsimp only); go_keep) (fun hHeld => ?_)
  clear hK K
  try simp only [Act.put, List.setIfInBounds_toArray, List.set_cons_zero, List.set_cons_succ]
  refine wpAnyH_take (i := 9) (oi := { dst := some 4, op := Op.assign (Operand.tmp 32), type := 9, pos := "ref.go:164", after := #[{ on := 8, ground := Ground.data }, { on := 4, ground := Ground.chain }, { on := 0, ground := Ground.phase }, { on := 1, ground := Ground.phase }, { on := 2, ground := Ground.phase }, { on := 3, ground := Ground.phase }, { on := 4, ground := Ground.phase }, { on := 5, ground := Ground.phase }, { on := 6, ground := Ground.phase }, { on := 7, ground := Ground.phase }, { on := 8, ground := Ground.phase }], guard := none }) (v := ?_) rfl (by kernel_rfl) (by kernel_rfl) (by kernel_rfl) (fun _ _ _ h => h) (Or.inl ⟨by rfl, ?_⟩) (by assumption) ?_
  rotate_left
  focus ((intro w hSw; (try dsimp only at hSw); go_simp); (try with_reducible rfl))
  try simp only [Act.put, List.setIfInBounds_toArray, List.set_cons_zero, List.set_cons_succ]
  refine wpAnyH_take (i := 10) (oi := { dst := some 5, op := Op.assign (Operand.const (Value.int IntKind.i64 0)), type := 29, pos := "ref.go:164", after := #[{ on := 9, ground := Ground.chain }, { on := 0, ground := Ground.phase }, { on := 1, ground := Ground.phase }, { on := 2, ground := Ground.phase }, { on := 3, ground := Ground.phase }, { on := 4, ground := Ground.phase }, { on := 5, ground := Ground.phase }, { on := 6, ground := Ground.phase }, { on := 7, ground := Ground.phase }, { on := 8, ground := Ground.phase }, { on := 9, ground := Ground.phase }], guard := none }) (v := ?_) rfl (by kernel_rfl) (by kernel_rfl) (by kernel_rfl) (fun _ _ _ h => h) (Or.inl ⟨by rfl, ?_⟩) (by assumption) ?_
  rotate_left
  focus ((intro w hSw; (try dsimp only at hSw); go_simp); (try with_reducible rfl))
  try simp only [Act.put, List.setIfInBounds_toArray, List.set_cons_zero, List.set_cons_succ]
  refine wpAnyH_done (by kernel_rfl) ?_ _
  clear hHeld
  go_wp2_with fail
  go_ret2
  exact ⟨rfl, HB4.out⟩

end Go.Proofs.YtahnkmkmoalbhaaGreatDoor

/- The reference of layer 5: Parse: the walk, over a contract of layer 3's Parse. -/
namespace Go.Proofs.YtahnkmkmoalbhaaGreatDoor
open Go.RowKit

/-- an amount and an error -/
def monE (c a : ByteArray) (e : Int) : Value := .tuple #[.agg #[.string c, .string a], .int .i64 e]
set_option maxRecDepth 100000 in
set_option maxHeartbeats 16000000 in
theorem rPar_tab (w : World) (xa : Option Addr) (n cap : Nat) (c : Nat → ByteArray) (p : Nat → Int) (s : ByteArray) (hr : Rt w xa n c p) (hf : FitT n c) (h : tabE n c p ≠ 0) :
    Calls Tryz.prog 34 #[.slice xa n cap, .string s] w fun e w' => e = .returned (monE ⟨#[]⟩ ⟨#[]⟩ 1) ∧ Below w.heap.size w w' := by
  have HCK := Lib.hid (rTab (w.alloc (.cells #[.string ⟨#[]⟩, .string ⟨#[]⟩] 35)) xa n cap c p (hr.alloc _) hf)
  obtain ⟨W0, hW0⟩ : ∃ W, W = w.alloc (.cells #[.string ⟨#[]⟩, .string ⟨#[]⟩] 35) := ⟨_, rfl⟩
  have HX := Lib.hid (show PairAt W0 w.heap.size 35 ⟨#[]⟩ ⟨#[]⟩ by rw [hW0]; exact PairAt.made _ _ _ _)
  have HB := Lib.hid (show Below w.heap.size w W0 by rw [hW0]; exact (Below.refl _ _).alloc (Nat.le_refl _) _)
  rw [← hW0] at HCK
  obtain ⟨d, hd⟩ : ∃ d, tabE n c p = d := ⟨_, rfl⟩
  rw [hd] at HCK h
  have hb : (d != 0) = true := by rw [bne_iff_ne]; exact h
  unfold monE
  clear hd h hr hf
  go_enter Tryz.func34, Tryz.ntmps34
  go_upto_region 1 with fail
  rw [← hW0]
  clear hW0
  go_wp2_with fail
  refine HCK.out.mono ?_
  rintro _ _ ⟨rfl, q, rfl⟩
  have HX2 := Lib.hid (show PairAt (W0.drewN q) w.heap.size 35 ⟨#[]⟩ ⟨#[]⟩ from HX.out)
  have HB2 := Lib.hid (below_drewN HB.out q)
  clear HX HB HCK
  obtain ⟨f0, f1, f2, f3⟩ := HX2.out.cells
  have hP := HX2.out.put (⟨#[]⟩) (⟨#[]⟩)
  obtain ⟨k0, k1, _, _⟩ := hP.cells
  have HBN := Lib.hid (below_put HB2.out (Nat.le_refl _) (.string (⟨#[]⟩)) (.string (⟨#[]⟩)))
  clear hP
  go_wp2_with fail
  (try simp only [Exit.inBlock, Exit.then])
  exact bodyPost_ret (v := .tuple #[.agg #[.string (⟨#[]⟩), .string (⟨#[]⟩)], .int .i64 (1)]) (by simp [results, Tryz.results34, go_sem, k0, k1]) rfl ⟨rfl, HBN.out⟩

set_option maxRecDepth 100000 in
set_option maxHeartbeats 16000000 in
theorem rPar_long (w : World) (xa : Option Addr) (n cap : Nat) (c : Nat → ByteArray) (p : Nat → Int) (s : ByteArray) (hr : Rt w xa n c p) (hf : FitT n c) (h : tabE n c p = 0) (h1 : 65536 < s.size) :
    Calls Tryz.prog 34 #[.slice xa n cap, .string s] w fun e w' => e = .returned (monE ⟨#[]⟩ ⟨#[]⟩ 4) ∧ Below w.heap.size w w' := by
  have HCK := Lib.hid (rTab (w.alloc (.cells #[.string ⟨#[]⟩, .string ⟨#[]⟩] 35)) xa n cap c p (hr.alloc _) hf)
  obtain ⟨W0, hW0⟩ : ∃ W, W = w.alloc (.cells #[.string ⟨#[]⟩, .string ⟨#[]⟩] 35) := ⟨_, rfl⟩
  have HX := Lib.hid (show PairAt W0 w.heap.size 35 ⟨#[]⟩ ⟨#[]⟩ by rw [hW0]; exact PairAt.made _ _ _ _)
  have HB := Lib.hid (show Below w.heap.size w W0 by rw [hW0]; exact (Below.refl _ _).alloc (Nat.le_refl _) _)
  rw [← hW0] at HCK
  rw [h] at HCK
  have hi : (65536 : Int) < (s.size : Int) := by omega
  unfold monE
  clear h h1 hr hf
  go_enter Tryz.func34, Tryz.ntmps34
  go_upto_region 1 with fail
  rw [← hW0]
  clear hW0
  go_wp2_with fail
  refine HCK.out.mono ?_
  rintro _ _ ⟨rfl, q, rfl⟩
  have HX2 := Lib.hid (show PairAt (W0.drewN q) w.heap.size 35 ⟨#[]⟩ ⟨#[]⟩ from HX.out)
  have HB2 := Lib.hid (below_drewN HB.out q)
  clear HX HB HCK
  obtain ⟨f0, f1, f2, f3⟩ := HX2.out.cells
  have hP := HX2.out.put (⟨#[]⟩) (⟨#[]⟩)
  obtain ⟨k0, k1, _, _⟩ := hP.cells
  have HBN := Lib.hid (below_put HB2.out (Nat.le_refl _) (.string (⟨#[]⟩)) (.string (⟨#[]⟩)))
  clear hP
  go_wp2_with fail
  (try simp only [Exit.inBlock, Exit.then])
  exact bodyPost_ret (v := .tuple #[.agg #[.string (⟨#[]⟩), .string (⟨#[]⟩)], .int .i64 (4)]) (by simp [results, Tryz.results34, go_sem, k0, k1]) rfl ⟨rfl, HBN.out⟩

set_option maxRecDepth 100000 in
set_option maxHeartbeats 16000000 in
theorem rPar_few (w : World) (xa : Option Addr) (n cap : Nat) (c : Nat → ByteArray) (p : Nat → Int) (s : ByteArray) (hr : Rt w xa n c p) (hf : FitT n c) (h : tabE n c p = 0) (h1 : s.size < 4) :
    Calls Tryz.prog 34 #[.slice xa n cap, .string s] w fun e w' => e = .returned (monE ⟨#[]⟩ ⟨#[]⟩ 3) ∧ Below w.heap.size w w' := by
  have HCK := Lib.hid (rTab (w.alloc (.cells #[.string ⟨#[]⟩, .string ⟨#[]⟩] 35)) xa n cap c p (hr.alloc _) hf)
  obtain ⟨W0, hW0⟩ : ∃ W, W = w.alloc (.cells #[.string ⟨#[]⟩, .string ⟨#[]⟩] 35) := ⟨_, rfl⟩
  have HX := Lib.hid (show PairAt W0 w.heap.size 35 ⟨#[]⟩ ⟨#[]⟩ by rw [hW0]; exact PairAt.made _ _ _ _)
  have HB := Lib.hid (show Below w.heap.size w W0 by rw [hW0]; exact (Below.refl _ _).alloc (Nat.le_refl _) _)
  rw [← hW0] at HCK
  rw [h] at HCK
  have hi : ¬ (65536 : Int) < (s.size : Int) := by omega
  unfold monE
  have hw : IntKind.i64.wrap ((s.size : Int) - 4) = (s.size : Int) - 4 := IntWalk.i64_in _ (by omega)
  have hn : (s.size : Int) - 4 < 0 := by omega
  clear h h1 hr hf
  go_enter Tryz.func34, Tryz.ntmps34
  go_upto_region 1 with fail
  rw [← hW0]
  clear hW0
  go_wp2_with fail
  refine HCK.out.mono ?_
  rintro _ _ ⟨rfl, q, rfl⟩
  have HX2 := Lib.hid (show PairAt (W0.drewN q) w.heap.size 35 ⟨#[]⟩ ⟨#[]⟩ from HX.out)
  have HB2 := Lib.hid (below_drewN HB.out q)
  clear HX HB HCK
  obtain ⟨f0, f1, f2, f3⟩ := HX2.out.cells
  have hP := HX2.out.put (⟨#[]⟩) (⟨#[]⟩)
  obtain ⟨k0, k1, _, _⟩ := hP.cells
  have HBN := Lib.hid (below_put HB2.out (Nat.le_refl _) (.string (⟨#[]⟩)) (.string (⟨#[]⟩)))
  clear hP
  go_wp2_with fail
  (try simp only [Exit.inBlock, Exit.then])
  exact bodyPost_ret (v := .tuple #[.agg #[.string (⟨#[]⟩), .string (⟨#[]⟩)], .int .i64 (3)]) (by simp [results, Tryz.results34, go_sem, k0, k1]) rfl ⟨rfl, HBN.out⟩

set_option maxRecDepth 100000 in
set_option maxHeartbeats 16000000 in
theorem rPar_gap (w : World) (xa : Option Addr) (n cap : Nat) (c : Nat → ByteArray) (p : Nat → Int) (s : ByteArray) (hr : Rt w xa n c p) (hf : FitT n c) (h : tabE n c p = 0) (h1 : s.size ≤ 65536) {m : Nat} (hm : s.size = m + 4) (hb : s[m]'(by omega) ≠ 32) :
    Calls Tryz.prog 34 #[.slice xa n cap, .string s] w fun e w' => e = .returned (monE ⟨#[]⟩ ⟨#[]⟩ 3) ∧ Below w.heap.size w w' := by
  have HCK := Lib.hid (rTab (w.alloc (.cells #[.string ⟨#[]⟩, .string ⟨#[]⟩] 35)) xa n cap c p (hr.alloc _) hf)
  obtain ⟨W0, hW0⟩ : ∃ W, W = w.alloc (.cells #[.string ⟨#[]⟩, .string ⟨#[]⟩] 35) := ⟨_, rfl⟩
  have HX := Lib.hid (show PairAt W0 w.heap.size 35 ⟨#[]⟩ ⟨#[]⟩ by rw [hW0]; exact PairAt.made _ _ _ _)
  have HB := Lib.hid (show Below w.heap.size w W0 by rw [hW0]; exact (Below.refl _ _).alloc (Nat.le_refl _) _)
  rw [← hW0] at HCK
  rw [h] at HCK
  have hi : ¬ (65536 : Int) < (s.size : Int) := by omega
  unfold monE
  obtain rfl : m = s.size - 4 := by omega
  obtain ⟨N, hN⟩ : ∃ N : Int, (s.size : Int) - 4 = N := ⟨_, rfl⟩
  have hw : IntKind.i64.wrap ((s.size : Int) - 4) = N := by rw [IntWalk.i64_in _ (by omega)]; exact hN
  have hw2 : IntKind.i64.wrap (N + 1) = N + 1 := IntWalk.i64_in _ (by omega)
  have hn : ¬ N < 0 := by omega
  have hn0 : 0 ≤ N := by omega
  have hlt : s.size - 4 < s.size := by omega
  have hNt : N.toNat = s.size - 4 := by omega
  have hNt2 : (N + 1).toNat = s.size - 4 + 1 := by omega
  have hNl : N < (s.size : Int) := by omega
  have hle : N + 1 ≤ (s.size : Int) := by omega
  have hgap : (((s[s.size - 4]'hlt).toNat : Int) != 32) = true := by
    rw [bne_iff_ne]
    intro e
    exact hb (UInt8.toNat_inj.1 (by show _ = 32; omega))
  clear h h1 hr hf hb hN hm
  go_enter Tryz.func34, Tryz.ntmps34
  go_upto_region 1 with fail
  rw [← hW0]
  clear hW0
  go_wp2_with fail
  refine HCK.out.mono ?_
  rintro _ _ ⟨rfl, q, rfl⟩
  have HX2 := Lib.hid (show PairAt (W0.drewN q) w.heap.size 35 ⟨#[]⟩ ⟨#[]⟩ from HX.out)
  have HB2 := Lib.hid (below_drewN HB.out q)
  clear HX HB HCK
  obtain ⟨f0, f1, f2, f3⟩ := HX2.out.cells
  have hP := HX2.out.put (⟨#[]⟩) (⟨#[]⟩)
  obtain ⟨k0, k1, _, _⟩ := hP.cells
  have HBN := Lib.hid (below_put HB2.out (Nat.le_refl _) (.string (⟨#[]⟩)) (.string (⟨#[]⟩)))
  clear hP
  go_wp2_with fail
  (try simp only [Exit.inBlock, Exit.then])
  exact bodyPost_ret (v := .tuple #[.agg #[.string (⟨#[]⟩), .string (⟨#[]⟩)], .int .i64 (3)]) (by simp [results, Tryz.results34, go_sem, k0, k1]) rfl ⟨rfl, HBN.out⟩

set_option maxRecDepth 100000 in
set_option maxHeartbeats 16000000 in
theorem rPar_code (w : World) (xa : Option Addr) (n cap : Nat) (c : Nat → ByteArray) (p : Nat → Int) (s : ByteArray) (hr : Rt w xa n c p) (hf : FitT n c) (h : tabE n c p = 0) (h1 : s.size ≤ 65536) {m : Nat} (hm : s.size = m + 4) (hb : s[m]'(by omega) = 32) (h2 : codeS (s.extract (m + 1) s.size) = false) :
    Calls Tryz.prog 34 #[.slice xa n cap, .string s] w fun e w' => e = .returned (monE ⟨#[]⟩ ⟨#[]⟩ 3) ∧ Below w.heap.size w w' := by
  have HCK := Lib.hid (rTab (w.alloc (.cells #[.string ⟨#[]⟩, .string ⟨#[]⟩] 35)) xa n cap c p (hr.alloc _) hf)
  obtain ⟨W0, hW0⟩ : ∃ W, W = w.alloc (.cells #[.string ⟨#[]⟩, .string ⟨#[]⟩] 35) := ⟨_, rfl⟩
  have HX := Lib.hid (show PairAt W0 w.heap.size 35 ⟨#[]⟩ ⟨#[]⟩ by rw [hW0]; exact PairAt.made _ _ _ _)
  have HB := Lib.hid (show Below w.heap.size w W0 by rw [hW0]; exact (Below.refl _ _).alloc (Nat.le_refl _) _)
  rw [← hW0] at HCK
  rw [h] at HCK
  have hi : ¬ (65536 : Int) < (s.size : Int) := by omega
  unfold monE
  obtain rfl : m = s.size - 4 := by omega
  obtain ⟨N, hN⟩ : ∃ N : Int, (s.size : Int) - 4 = N := ⟨_, rfl⟩
  have hw : IntKind.i64.wrap ((s.size : Int) - 4) = N := by rw [IntWalk.i64_in _ (by omega)]; exact hN
  have hw2 : IntKind.i64.wrap (N + 1) = N + 1 := IntWalk.i64_in _ (by omega)
  have hn : ¬ N < 0 := by omega
  have hn0 : 0 ≤ N := by omega
  have hlt : s.size - 4 < s.size := by omega
  have hNt : N.toNat = s.size - 4 := by omega
  have hNt2 : (N + 1).toNat = s.size - 4 + 1 := by omega
  have hNl : N < (s.size : Int) := by omega
  have hle : N + 1 ≤ (s.size : Int) := by omega
  have hgap : (((s[s.size - 4]'hlt).toNat : Int) != 32) = false := by rw [hb]; rfl
  have htl : (s.extract (s.size - 4 + 1) s.size).size = 3 := by rw [ByteArray.size_extract]; omega
  have HCO := Lib.hid (fun W => rCode (s.extract (s.size - 4 + 1) s.size) W (by omega))
  obtain ⟨tl, htl2⟩ : ∃ t, s.extract (s.size - 4 + 1) s.size = t := ⟨_, rfl⟩
  rw [h2] at HCO
  rw [htl2] at HCO h2
  clear h h1 hr hf hb h2 htl hN hm
  go_enter Tryz.func34, Tryz.ntmps34
  go_upto_region 1 with fail
  rw [← hW0]
  clear hW0
  go_wp2_with fail
  refine HCK.out.mono ?_
  rintro _ _ ⟨rfl, q, rfl⟩
  have HX2 := Lib.hid (show PairAt (W0.drewN q) w.heap.size 35 ⟨#[]⟩ ⟨#[]⟩ from HX.out)
  have HB2 := Lib.hid (below_drewN HB.out q)
  clear HX HB HCK
  go_wp2_with fail
  refine (HCO.out _).mono ?_
  rintro _ _ ⟨rfl, rfl⟩
  obtain ⟨f0, f1, f2, f3⟩ := HX2.out.cells
  have hP := HX2.out.put (⟨#[]⟩) (⟨#[]⟩)
  obtain ⟨k0, k1, _, _⟩ := hP.cells
  have HBN := Lib.hid (below_put HB2.out (Nat.le_refl _) (.string (⟨#[]⟩)) (.string (⟨#[]⟩)))
  clear hP
  go_wp2_with fail
  (try simp only [Exit.inBlock, Exit.then])
  exact bodyPost_ret (v := .tuple #[.agg #[.string (⟨#[]⟩), .string (⟨#[]⟩)], .int .i64 (3)]) (by simp [results, Tryz.results34, go_sem, k0, k1]) rfl ⟨rfl, HBN.out⟩

set_option maxRecDepth 100000 in
set_option maxHeartbeats 16000000 in
theorem rPar_none (w : World) (xa : Option Addr) (n cap : Nat) (c : Nat → ByteArray) (p : Nat → Int) (s : ByteArray) (hr : Rt w xa n c p) (hf : FitT n c) (h : tabE n c p = 0) (h1 : s.size ≤ 65536) {m : Nat} (hm : s.size = m + 4) (hb : s[m]'(by omega) = 32) (h2 : codeS (s.extract (m + 1) s.size) = true) (h3 : curI n c (s.extract (m + 1) s.size) = none) :
    Calls Tryz.prog 34 #[.slice xa n cap, .string s] w fun e w' => e = .returned (monE ⟨#[]⟩ ⟨#[]⟩ 12) ∧ Below w.heap.size w w' := by
  have HCK := Lib.hid (rTab (w.alloc (.cells #[.string ⟨#[]⟩, .string ⟨#[]⟩] 35)) xa n cap c p (hr.alloc _) hf)
  obtain ⟨W0, hW0⟩ : ∃ W, W = w.alloc (.cells #[.string ⟨#[]⟩, .string ⟨#[]⟩] 35) := ⟨_, rfl⟩
  have HX := Lib.hid (show PairAt W0 w.heap.size 35 ⟨#[]⟩ ⟨#[]⟩ by rw [hW0]; exact PairAt.made _ _ _ _)
  have HB := Lib.hid (show Below w.heap.size w W0 by rw [hW0]; exact (Below.refl _ _).alloc (Nat.le_refl _) _)
  rw [← hW0] at HCK
  rw [h] at HCK
  have hi : ¬ (65536 : Int) < (s.size : Int) := by omega
  unfold monE
  obtain rfl : m = s.size - 4 := by omega
  obtain ⟨N, hN⟩ : ∃ N : Int, (s.size : Int) - 4 = N := ⟨_, rfl⟩
  have hw : IntKind.i64.wrap ((s.size : Int) - 4) = N := by rw [IntWalk.i64_in _ (by omega)]; exact hN
  have hw2 : IntKind.i64.wrap (N + 1) = N + 1 := IntWalk.i64_in _ (by omega)
  have hn : ¬ N < 0 := by omega
  have hn0 : 0 ≤ N := by omega
  have hlt : s.size - 4 < s.size := by omega
  have hNt : N.toNat = s.size - 4 := by omega
  have hNt2 : (N + 1).toNat = s.size - 4 + 1 := by omega
  have hNl : N < (s.size : Int) := by omega
  have hle : N + 1 ≤ (s.size : Int) := by omega
  have hgap : (((s[s.size - 4]'hlt).toNat : Int) != 32) = false := by rw [hb]; rfl
  have htl : (s.extract (s.size - 4 + 1) s.size).size = 3 := by rw [ByteArray.size_extract]; omega
  have HCO := Lib.hid (fun W => rCode (s.extract (s.size - 4 + 1) s.size) W (by omega))
  obtain ⟨tl, htl2⟩ : ∃ t, s.extract (s.size - 4 + 1) s.size = t := ⟨_, rfl⟩
  rw [h2] at HCO
  have hmax := hf.max
  have HFI := Lib.hid (fun q => rFind (W0.drewN q) xa n cap c p (s.extract (s.size - 4 + 1) s.size) ((show Rt W0 xa n c p by rw [hW0]; exact hr.alloc _).drewN q) (by omega))
  rw [h3] at HFI
  unfold curV at HFI
  dsimp only at HFI
  rw [htl2] at HCO HFI
  clear h h1 hr hf hb h2 h3 htl hN hm hmax
  go_enter Tryz.func34, Tryz.ntmps34
  go_upto_region 1 with fail
  rw [← hW0]
  clear hW0
  go_wp2_with fail
  refine HCK.out.mono ?_
  rintro _ _ ⟨rfl, q, rfl⟩
  have HX2 := Lib.hid (show PairAt (W0.drewN q) w.heap.size 35 ⟨#[]⟩ ⟨#[]⟩ from HX.out)
  have HB2 := Lib.hid (below_drewN HB.out q)
  clear HX HB HCK
  go_wp2_with fail
  refine (HCO.out _).mono ?_
  rintro _ _ ⟨rfl, rfl⟩
  go_wp2_with fail
  refine (HFI.out q).mono ?_
  rintro _ w2 ⟨rfl, hB⟩
  have HX3 := Lib.hid ((HX2.out.below hB).alloc (.cells #[.string ⟨#[]⟩, .int .i64 0] 26))
  have HB3 := Lib.hid ((HB2.out.trans (hB.mono HB2.out.size)).alloc (HB2.out.trans (hB.mono HB2.out.size)).size (.cells #[.string ⟨#[]⟩, .int .i64 0] 26))
  clear hB HX2 HB2 HFI HCO
  obtain ⟨f0, f1, f2, f3⟩ := HX3.out.cells
  have hP := HX3.out.put (⟨#[]⟩) (⟨#[]⟩)
  obtain ⟨k0, k1, _, _⟩ := hP.cells
  have HBN := Lib.hid (below_put HB3.out (Nat.le_refl _) (.string (⟨#[]⟩)) (.string (⟨#[]⟩)))
  clear hP
  go_wp2_with fail
  (try simp only [Exit.inBlock, Exit.then])
  exact bodyPost_ret (v := .tuple #[.agg #[.string (⟨#[]⟩), .string (⟨#[]⟩)], .int .i64 (12)]) (by simp [results, Tryz.results34, go_sem, k0, k1]) rfl ⟨rfl, HBN.out⟩

set_option maxRecDepth 100000 in
set_option maxHeartbeats 16000000 in
theorem rPar_bad (w : World) (hG : Ground w) (xa : Option Addr) (n cap : Nat) (c : Nat → ByteArray) (p : Nat → Int) (s : ByteArray) (hr : Rt w xa n c p) (hf : FitT n c) (h : tabE n c p = 0) (h1 : s.size ≤ 65536) {m : Nat} (hm : s.size = m + 4) (hb : s[m]'(by omega) = 32) (h2 : codeS (s.extract (m + 1) s.size) = true) {i : Nat} (h3 : curI n c (s.extract (m + 1) s.size) = some i) (a : ByteArray) (ee : Int) (he : ee ≠ 0) (hP : ∀ W, Ground W → Calls Tryz.prog 66 #[.string (s.extract 0 m), .int .i64 (p i)] W fun e w' => e = .returned (.tuple #[.string a, .int .i64 ee]) ∧ Below W.heap.size W w') :
    Calls Tryz.prog 34 #[.slice xa n cap, .string s] w fun e w' => e = .returned (monE ⟨#[]⟩ ⟨#[]⟩ ee) ∧ Below w.heap.size w w' := by
  have HCK := Lib.hid (rTab (w.alloc (.cells #[.string ⟨#[]⟩, .string ⟨#[]⟩] 35)) xa n cap c p (hr.alloc _) hf)
  obtain ⟨W0, hW0⟩ : ∃ W, W = w.alloc (.cells #[.string ⟨#[]⟩, .string ⟨#[]⟩] 35) := ⟨_, rfl⟩
  have HX := Lib.hid (show PairAt W0 w.heap.size 35 ⟨#[]⟩ ⟨#[]⟩ by rw [hW0]; exact PairAt.made _ _ _ _)
  have HB := Lib.hid (show Below w.heap.size w W0 by rw [hW0]; exact (Below.refl _ _).alloc (Nat.le_refl _) _)
  rw [← hW0] at HCK
  rw [h] at HCK
  have hi : ¬ (65536 : Int) < (s.size : Int) := by omega
  unfold monE
  obtain rfl : m = s.size - 4 := by omega
  obtain ⟨N, hN⟩ : ∃ N : Int, (s.size : Int) - 4 = N := ⟨_, rfl⟩
  have hw : IntKind.i64.wrap ((s.size : Int) - 4) = N := by rw [IntWalk.i64_in _ (by omega)]; exact hN
  have hw2 : IntKind.i64.wrap (N + 1) = N + 1 := IntWalk.i64_in _ (by omega)
  have hn : ¬ N < 0 := by omega
  have hn0 : 0 ≤ N := by omega
  have hlt : s.size - 4 < s.size := by omega
  have hNt : N.toNat = s.size - 4 := by omega
  have hNt2 : (N + 1).toNat = s.size - 4 + 1 := by omega
  have hNl : N < (s.size : Int) := by omega
  have hle : N + 1 ≤ (s.size : Int) := by omega
  have hgap : (((s[s.size - 4]'hlt).toNat : Int) != 32) = false := by rw [hb]; rfl
  have htl : (s.extract (s.size - 4 + 1) s.size).size = 3 := by rw [ByteArray.size_extract]; omega
  have HCO := Lib.hid (fun W => rCode (s.extract (s.size - 4 + 1) s.size) W (by omega))
  obtain ⟨tl, htl2⟩ : ∃ t, s.extract (s.size - 4 + 1) s.size = t := ⟨_, rfl⟩
  rw [h2] at HCO
  have hmax := hf.max
  have HFI := Lib.hid (fun q => rFind (W0.drewN q) xa n cap c p (s.extract (s.size - 4 + 1) s.size) ((show Rt W0 xa n c p by rw [hW0]; exact hr.alloc _).drewN q) (by omega))
  rw [h3] at HFI
  unfold curV at HFI
  dsimp only at HFI
  obtain ⟨ci, hci⟩ : ∃ y, c i = y := ⟨_, rfl⟩
  obtain ⟨pi, hpi⟩ : ∃ y, p i = y := ⟨_, rfl⟩
  rw [hci, hpi] at HFI
  rw [hpi] at hP
  obtain ⟨hd, hhd⟩ : ∃ t, s.extract 0 (s.size - 4) = t := ⟨_, rfl⟩
  rw [hhd] at hP
  have HPA := Lib.hid hP
  have HG := Lib.hid hG
  rw [htl2] at HCO HFI
  have heb : (ee != 0) = true := by rw [bne_iff_ne]; exact he
  clear h h1 hr hf hb h2 h3 htl hN hm hmax hci hpi hP hG he
  go_enter Tryz.func34, Tryz.ntmps34
  go_upto_region 1 with fail
  rw [← hW0]
  clear hW0
  go_wp2_with fail
  refine HCK.out.mono ?_
  rintro _ _ ⟨rfl, q, rfl⟩
  have HX2 := Lib.hid (show PairAt (W0.drewN q) w.heap.size 35 ⟨#[]⟩ ⟨#[]⟩ from HX.out)
  have HB2 := Lib.hid (below_drewN HB.out q)
  clear HX HB HCK
  go_wp2_with fail
  refine (HCO.out _).mono ?_
  rintro _ _ ⟨rfl, rfl⟩
  go_wp2_with fail
  refine (HFI.out q).mono ?_
  rintro _ w2 ⟨rfl, hB⟩
  have HX3 := Lib.hid ((HX2.out.below hB).alloc (.cells #[.string ci, .int .i64 pi] 26))
  have HB3 := Lib.hid ((HB2.out.trans (hB.mono HB2.out.size)).alloc (HB2.out.trans (hB.mono HB2.out.size)).size (.cells #[.string ci, .int .i64 pi] 26))
  obtain ⟨S6, hS6⟩ : ∃ s, w2.heap.size = s := ⟨_, rfl⟩
  obtain ⟨W3, hW3⟩ : ∃ W, W = w2.alloc (.cells #[.string ci, .int .i64 pi] 26) := ⟨_, rfl⟩
  have HT := Lib.hid (show TwoAt W3 S6 26 (.string ci) (.int .i64 pi) by rw [hW3, ← hS6]; exact TwoAt.made _ _ _ _)
  rw [← hW3] at HX3 HB3
  clear hB HX2 HB2 HFI HCO
  go_upto_region 9 with fail
  rw [← hW3]
  try rw [hS6]
  clear hW3
  obtain ⟨q3, q4, _, _⟩ := HT.out.cells
  go_wp2_with fail
  refine wp_region_held_drew (S := fun w' => w'.cell? ⟨S6, 0, none⟩ = some (.string ci) ∧ w'.cell? ⟨S6, 1, none⟩ = some (.int .i64 pi)) (by kernel_rfl) (by (try dsimp only); go_keep) (fun hHeld => ?_)
  refine wpAnyH_take (i := 0) (oi := { dst := some 52, op := Op.move (Operand.tmp 1), type := 9, pos := "ref.go:183", after := #[], guard := none }) (v := ?_) rfl (by kernel_rfl) (by kernel_rfl) (by kernel_rfl) (fun _ _ _ h => h) (Or.inl ⟨by rfl, ?_⟩) (by assumption) ?_
  rotate_left
  focus ((intro w hSw; (try dsimp only at hSw); go_simp); (try with_reducible rfl))
  try simp only [Act.put, List.setIfInBounds_toArray, List.set_cons_zero, List.set_cons_succ]
  refine wpAnyH_take (i := 1) (oi := { dst := some 53, op := Op.move (Operand.tmp 6), type := 3, pos := "ref.go:183", after := #[], guard := none }) (v := ?_) rfl (by kernel_rfl) (by kernel_rfl) (by kernel_rfl) (fun _ _ _ h => h) (Or.inl ⟨by rfl, ?_⟩) (by assumption) ?_
  rotate_left
  focus ((intro w hSw; (try dsimp only at hSw); go_simp); (try with_reducible rfl))
  try simp only [Act.put, List.setIfInBounds_toArray, List.set_cons_zero, List.set_cons_succ]
  refine wpAnyH_take (i := 3) (oi := { dst := some 55, op := Op.fieldAddr 26 (Operand.tmp 7) 1, type := 0, pos := "ref.go:183", after := #[], guard := none }) (v := ?_) rfl (by kernel_rfl) (by kernel_rfl) (by kernel_rfl) (fun _ _ _ h => h) (Or.inl ⟨by rfl, ?_⟩) (by assumption) ?_
  rotate_left
  focus ((intro w hSw; (try dsimp only at hSw); go_simp); (try with_reducible rfl))
  try simp only [Act.put, List.setIfInBounds_toArray, List.set_cons_zero, List.set_cons_succ]
  refine wpAnyH_take (i := 4) (oi := { dst := some 56, op := Op.load 3 (Operand.tmp 55), type := 3, pos := "ref.go:183", after := #[{ on := 3, ground := Ground.data }], guard := none }) (v := ?_) rfl (by kernel_rfl) (by kernel_rfl) (by kernel_rfl) (fun _ _ _ h => h) (Or.inl ⟨by rfl, ?_⟩) (by assumption) ?_
  rotate_left
  focus ((intro w hSw; (try dsimp only at hSw); go_simp); (try with_reducible rfl))
  try simp only [Act.put, List.setIfInBounds_toArray, List.set_cons_zero, List.set_cons_succ]
  refine wpAnyH_ready (rs := [2]) (by kernel_rfl) (by simp) ?_
  refine AllReadyH.cons (o := { dst := some 54, op := Op.slice 9 (Operand.tmp 52) none (some (Operand.tmp 53)) none, type := 9, pos := "ref.go:183", after := #[{ on := 0, ground := Ground.data }, { on := 1, ground := Ground.data }], guard := none }) rfl (fun K hK => ?_) AllReadyH.nil
  clear hHeld
  go_simp
  rw [if_pos (by omega)]
  go_simp
  refine hK.out _ _ (by (try dsimp only); go_keep) (fun hHeld => ?_)
  clear hK K
  try simp only [Act.put, List.setIfInBounds_toArray, List.set_cons_zero, List.set_cons_succ]
  refine wpAnyH_ready (rs := [5]) (by kernel_rfl) (by simp) ?_
  refine AllReadyH.cons (o := { dst := some 57, op := Op.call { callee := Callee.value (Operand.func 66), args := #[Operand.tmp 54, Operand.tmp 56], argTypes := #[9, 3] }, type := 83, pos := "ref.go:183", after := #[{ on := 2, ground := Ground.data }, { on := 4, ground := Ground.data }], guard := none }) rfl (fun K hK => ?_) AllReadyH.nil
  clear hHeld
  go_simp
  refine (HPA.out _ (HG.out.below (below_drew HB3.out))).mono ?_
  rintro _ w4 ⟨rfl, hB1⟩
  have HX4 := Lib.hid (show PairAt w4 w.heap.size 35 ⟨#[]⟩ ⟨#[]⟩ from PairAt.below (w := W3.drew) HX3.out hB1)
  have HT4 := Lib.hid (show TwoAt w4 S6 26 (.string ci) (.int .i64 pi) from TwoAt.below (w := W3.drew) HT.out hB1)
  have HB4 := Lib.hid ((below_drew HB3.out).trans (hB1.mono HB3.out.size))
  clear q3 q4 hB1
  obtain ⟨q3, q4, _, _⟩ := HT4.out.cells
  go_wp2_with fail
  refine hK.out _ _ (by (try dsimp only); go_keep) (fun hHeld => ?_)
  clear hK K
  try simp only [Act.put, List.setIfInBounds_toArray, List.set_cons_zero, List.set_cons_succ]
  refine wpAnyH_take (i := 6) (oi := { dst := some 51, op := Op.move (Operand.tmp 57), type := 83, pos := "ref.go:183", after := #[{ on := 5, ground := Ground.data }], guard := none }) (v := ?_) rfl (by kernel_rfl) (by kernel_rfl) (by kernel_rfl) (fun _ _ _ h => h) (Or.inl ⟨by rfl, ?_⟩) (by assumption) ?_
  rotate_left
  focus ((intro w hSw; (try dsimp only at hSw); go_simp); (try with_reducible rfl))
  try simp only [Act.put, List.setIfInBounds_toArray, List.set_cons_zero, List.set_cons_succ]
  refine wpAnyH_take (i := 7) (oi := { dst := some 58, op := Op.extract (Operand.tmp 51) 0, type := 33, pos := "ref.go:183", after := #[{ on := 6, ground := Ground.data }], guard := none }) (v := ?_) rfl (by kernel_rfl) (by kernel_rfl) (by kernel_rfl) (fun _ _ _ h => h) (Or.inl ⟨by rfl, ?_⟩) (by assumption) ?_
  rotate_left
  focus ((intro w hSw; (try dsimp only at hSw); go_simp); (try with_reducible rfl))
  try simp only [Act.put, List.setIfInBounds_toArray, List.set_cons_zero, List.set_cons_succ]
  refine wpAnyH_take (i := 8) (oi := { dst := some 59, op := Op.extract (Operand.tmp 51) 1, type := 29, pos := "ref.go:183", after := #[{ on := 6, ground := Ground.data }, { on := 9, ground := Ground.gcOnly Departure.lateStores }], guard := none }) (v := ?_) rfl (by kernel_rfl) (by kernel_rfl) (by kernel_rfl) (fun _ _ _ h => h) (Or.inl ⟨by rfl, ?_⟩) (by assumption) ?_
  rotate_left
  focus ((intro w hSw; (try dsimp only at hSw); go_simp); (try with_reducible rfl))
  try simp only [Act.put, List.setIfInBounds_toArray, List.set_cons_zero, List.set_cons_succ]
  refine wpAnyH_take (i := 9) (oi := { dst := some 9, op := Op.assign (Operand.tmp 58), type := 33, pos := "ref.go:183", after := #[{ on := 7, ground := Ground.data }, { on := 5, ground := Ground.chain }, { on := 0, ground := Ground.phase }, { on := 1, ground := Ground.phase }, { on := 2, ground := Ground.phase }, { on := 3, ground := Ground.phase }, { on := 4, ground := Ground.phase }, { on := 5, ground := Ground.phase }, { on := 6, ground := Ground.phase }, { on := 7, ground := Ground.phase }, { on := 8, ground := Ground.textOnly Departure.lateStores }], guard := none }) (v := ?_) rfl (by kernel_rfl) (by kernel_rfl) (by kernel_rfl) (fun _ _ _ h => h) (Or.inl ⟨by rfl, ?_⟩) (by assumption) ?_
  rotate_left
  focus ((intro w hSw; (try dsimp only at hSw); go_simp); (try with_reducible rfl))
  try simp only [Act.put, List.setIfInBounds_toArray, List.set_cons_zero, List.set_cons_succ]
  refine wpAnyH_take (i := 10) (oi := { dst := some 10, op := Op.assign (Operand.tmp 59), type := 29, pos := "ref.go:183", after := #[{ on := 8, ground := Ground.data }, { on := 9, ground := Ground.chain }, { on := 0, ground := Ground.phase }, { on := 1, ground := Ground.phase }, { on := 2, ground := Ground.phase }, { on := 3, ground := Ground.phase }, { on := 4, ground := Ground.phase }, { on := 5, ground := Ground.phase }, { on := 6, ground := Ground.phase }, { on := 7, ground := Ground.phase }, { on := 8, ground := Ground.phase }, { on := 9, ground := Ground.phase }], guard := none }) (v := ?_) rfl (by kernel_rfl) (by kernel_rfl) (by kernel_rfl) (fun _ _ _ h => h) (Or.inl ⟨by rfl, ?_⟩) (by assumption) ?_
  rotate_left
  focus ((intro w hSw; (try dsimp only at hSw); go_simp); (try with_reducible rfl))
  try simp only [Act.put, List.setIfInBounds_toArray, List.set_cons_zero, List.set_cons_succ]
  refine wpAnyH_done (by kernel_rfl) ?_ _
  clear hHeld
  obtain ⟨f0, f1, f2, f3⟩ := HX4.out.cells
  have hP := HX4.out.put (⟨#[]⟩) (⟨#[]⟩)
  obtain ⟨k0, k1, _, _⟩ := hP.cells
  have HBN := Lib.hid (below_put HB4.out (Nat.le_refl _) (.string (⟨#[]⟩)) (.string (⟨#[]⟩)))
  clear hP
  go_wp2_with fail
  (try simp only [Exit.inBlock, Exit.then])
  exact bodyPost_ret (v := .tuple #[.agg #[.string (⟨#[]⟩), .string (⟨#[]⟩)], .int .i64 (ee)]) (by simp [results, Tryz.results34, go_sem, k0, k1]) rfl ⟨rfl, HBN.out⟩

set_option maxRecDepth 100000 in
set_option maxHeartbeats 16000000 in
theorem rPar_ok (w : World) (hG : Ground w) (xa : Option Addr) (n cap : Nat) (c : Nat → ByteArray) (p : Nat → Int) (s : ByteArray) (hr : Rt w xa n c p) (hf : FitT n c) (h : tabE n c p = 0) (h1 : s.size ≤ 65536) {m : Nat} (hm : s.size = m + 4) (hb : s[m]'(by omega) = 32) (h2 : codeS (s.extract (m + 1) s.size) = true) {i : Nat} (h3 : curI n c (s.extract (m + 1) s.size) = some i) (a : ByteArray) (hP : ∀ W, Ground W → Calls Tryz.prog 66 #[.string (s.extract 0 m), .int .i64 (p i)] W fun e w' => e = .returned (.tuple #[.string a, .int .i64 0]) ∧ Below W.heap.size W w') :
    Calls Tryz.prog 34 #[.slice xa n cap, .string s] w fun e w' => e = .returned (monE (c i) a 0) ∧ Below w.heap.size w w' := by
  have HCK := Lib.hid (rTab (w.alloc (.cells #[.string ⟨#[]⟩, .string ⟨#[]⟩] 35)) xa n cap c p (hr.alloc _) hf)
  obtain ⟨W0, hW0⟩ : ∃ W, W = w.alloc (.cells #[.string ⟨#[]⟩, .string ⟨#[]⟩] 35) := ⟨_, rfl⟩
  have HX := Lib.hid (show PairAt W0 w.heap.size 35 ⟨#[]⟩ ⟨#[]⟩ by rw [hW0]; exact PairAt.made _ _ _ _)
  have HB := Lib.hid (show Below w.heap.size w W0 by rw [hW0]; exact (Below.refl _ _).alloc (Nat.le_refl _) _)
  rw [← hW0] at HCK
  rw [h] at HCK
  have hi : ¬ (65536 : Int) < (s.size : Int) := by omega
  unfold monE
  obtain rfl : m = s.size - 4 := by omega
  obtain ⟨N, hN⟩ : ∃ N : Int, (s.size : Int) - 4 = N := ⟨_, rfl⟩
  have hw : IntKind.i64.wrap ((s.size : Int) - 4) = N := by rw [IntWalk.i64_in _ (by omega)]; exact hN
  have hw2 : IntKind.i64.wrap (N + 1) = N + 1 := IntWalk.i64_in _ (by omega)
  have hn : ¬ N < 0 := by omega
  have hn0 : 0 ≤ N := by omega
  have hlt : s.size - 4 < s.size := by omega
  have hNt : N.toNat = s.size - 4 := by omega
  have hNt2 : (N + 1).toNat = s.size - 4 + 1 := by omega
  have hNl : N < (s.size : Int) := by omega
  have hle : N + 1 ≤ (s.size : Int) := by omega
  have hgap : (((s[s.size - 4]'hlt).toNat : Int) != 32) = false := by rw [hb]; rfl
  have htl : (s.extract (s.size - 4 + 1) s.size).size = 3 := by rw [ByteArray.size_extract]; omega
  have HCO := Lib.hid (fun W => rCode (s.extract (s.size - 4 + 1) s.size) W (by omega))
  obtain ⟨tl, htl2⟩ : ∃ t, s.extract (s.size - 4 + 1) s.size = t := ⟨_, rfl⟩
  rw [h2] at HCO
  have hmax := hf.max
  have HFI := Lib.hid (fun q => rFind (W0.drewN q) xa n cap c p (s.extract (s.size - 4 + 1) s.size) ((show Rt W0 xa n c p by rw [hW0]; exact hr.alloc _).drewN q) (by omega))
  rw [h3] at HFI
  unfold curV at HFI
  dsimp only at HFI
  obtain ⟨ci, hci⟩ : ∃ y, c i = y := ⟨_, rfl⟩
  obtain ⟨pi, hpi⟩ : ∃ y, p i = y := ⟨_, rfl⟩
  rw [hci, hpi] at HFI
  rw [hpi] at hP
  obtain ⟨hd, hhd⟩ : ∃ t, s.extract 0 (s.size - 4) = t := ⟨_, rfl⟩
  rw [hhd] at hP
  have HPA := Lib.hid hP
  have HG := Lib.hid hG
  rw [htl2] at HCO HFI
  try rw [hci]
  clear h h1 hr hf hb h2 h3 htl hN hm hmax hci hpi hP hG
  go_enter Tryz.func34, Tryz.ntmps34
  go_upto_region 1 with fail
  rw [← hW0]
  clear hW0
  go_wp2_with fail
  refine HCK.out.mono ?_
  rintro _ _ ⟨rfl, q, rfl⟩
  have HX2 := Lib.hid (show PairAt (W0.drewN q) w.heap.size 35 ⟨#[]⟩ ⟨#[]⟩ from HX.out)
  have HB2 := Lib.hid (below_drewN HB.out q)
  clear HX HB HCK
  go_wp2_with fail
  refine (HCO.out _).mono ?_
  rintro _ _ ⟨rfl, rfl⟩
  go_wp2_with fail
  refine (HFI.out q).mono ?_
  rintro _ w2 ⟨rfl, hB⟩
  have HX3 := Lib.hid ((HX2.out.below hB).alloc (.cells #[.string ci, .int .i64 pi] 26))
  have HB3 := Lib.hid ((HB2.out.trans (hB.mono HB2.out.size)).alloc (HB2.out.trans (hB.mono HB2.out.size)).size (.cells #[.string ci, .int .i64 pi] 26))
  obtain ⟨S6, hS6⟩ : ∃ s, w2.heap.size = s := ⟨_, rfl⟩
  obtain ⟨W3, hW3⟩ : ∃ W, W = w2.alloc (.cells #[.string ci, .int .i64 pi] 26) := ⟨_, rfl⟩
  have HT := Lib.hid (show TwoAt W3 S6 26 (.string ci) (.int .i64 pi) by rw [hW3, ← hS6]; exact TwoAt.made _ _ _ _)
  rw [← hW3] at HX3 HB3
  clear hB HX2 HB2 HFI HCO
  go_upto_region 9 with fail
  rw [← hW3]
  try rw [hS6]
  clear hW3
  obtain ⟨q3, q4, _, _⟩ := HT.out.cells
  go_wp2_with fail
  refine wp_region_held_drew (S := fun w' => w'.cell? ⟨S6, 0, none⟩ = some (.string ci) ∧ w'.cell? ⟨S6, 1, none⟩ = some (.int .i64 pi)) (by kernel_rfl) (by (try dsimp only); go_keep) (fun hHeld => ?_)
  refine wpAnyH_take (i := 0) (oi := { dst := some 52, op := Op.move (Operand.tmp 1), type := 9, pos := "ref.go:183", after := #[], guard := none }) (v := ?_) rfl (by kernel_rfl) (by kernel_rfl) (by kernel_rfl) (fun _ _ _ h => h) (Or.inl ⟨by rfl, ?_⟩) (by assumption) ?_
  rotate_left
  focus ((intro w hSw; (try dsimp only at hSw); go_simp); (try with_reducible rfl))
  try simp only [Act.put, List.setIfInBounds_toArray, List.set_cons_zero, List.set_cons_succ]
  refine wpAnyH_take (i := 1) (oi := { dst := some 53, op := Op.move (Operand.tmp 6), type := 3, pos := "ref.go:183", after := #[], guard := none }) (v := ?_) rfl (by kernel_rfl) (by kernel_rfl) (by kernel_rfl) (fun _ _ _ h => h) (Or.inl ⟨by rfl, ?_⟩) (by assumption) ?_
  rotate_left
  focus ((intro w hSw; (try dsimp only at hSw); go_simp); (try with_reducible rfl))
  try simp only [Act.put, List.setIfInBounds_toArray, List.set_cons_zero, List.set_cons_succ]
  refine wpAnyH_take (i := 3) (oi := { dst := some 55, op := Op.fieldAddr 26 (Operand.tmp 7) 1, type := 0, pos := "ref.go:183", after := #[], guard := none }) (v := ?_) rfl (by kernel_rfl) (by kernel_rfl) (by kernel_rfl) (fun _ _ _ h => h) (Or.inl ⟨by rfl, ?_⟩) (by assumption) ?_
  rotate_left
  focus ((intro w hSw; (try dsimp only at hSw); go_simp); (try with_reducible rfl))
  try simp only [Act.put, List.setIfInBounds_toArray, List.set_cons_zero, List.set_cons_succ]
  refine wpAnyH_take (i := 4) (oi := { dst := some 56, op := Op.load 3 (Operand.tmp 55), type := 3, pos := "ref.go:183", after := #[{ on := 3, ground := Ground.data }], guard := none }) (v := ?_) rfl (by kernel_rfl) (by kernel_rfl) (by kernel_rfl) (fun _ _ _ h => h) (Or.inl ⟨by rfl, ?_⟩) (by assumption) ?_
  rotate_left
  focus ((intro w hSw; (try dsimp only at hSw); go_simp); (try with_reducible rfl))
  try simp only [Act.put, List.setIfInBounds_toArray, List.set_cons_zero, List.set_cons_succ]
  refine wpAnyH_ready (rs := [2]) (by kernel_rfl) (by simp) ?_
  refine AllReadyH.cons (o := { dst := some 54, op := Op.slice 9 (Operand.tmp 52) none (some (Operand.tmp 53)) none, type := 9, pos := "ref.go:183", after := #[{ on := 0, ground := Ground.data }, { on := 1, ground := Ground.data }], guard := none }) rfl (fun K hK => ?_) AllReadyH.nil
  clear hHeld
  go_simp
  rw [if_pos (by omega)]
  go_simp
  refine hK.out _ _ (by (try dsimp only); go_keep) (fun hHeld => ?_)
  clear hK K
  try simp only [Act.put, List.setIfInBounds_toArray, List.set_cons_zero, List.set_cons_succ]
  refine wpAnyH_ready (rs := [5]) (by kernel_rfl) (by simp) ?_
  refine AllReadyH.cons (o := { dst := some 57, op := Op.call { callee := Callee.value (Operand.func 66), args := #[Operand.tmp 54, Operand.tmp 56], argTypes := #[9, 3] }, type := 83, pos := "ref.go:183", after := #[{ on := 2, ground := Ground.data }, { on := 4, ground := Ground.data }], guard := none }) rfl (fun K hK => ?_) AllReadyH.nil
  clear hHeld
  go_simp
  refine (HPA.out _ (HG.out.below (below_drew HB3.out))).mono ?_
  rintro _ w4 ⟨rfl, hB1⟩
  have HX4 := Lib.hid (show PairAt w4 w.heap.size 35 ⟨#[]⟩ ⟨#[]⟩ from PairAt.below (w := W3.drew) HX3.out hB1)
  have HT4 := Lib.hid (show TwoAt w4 S6 26 (.string ci) (.int .i64 pi) from TwoAt.below (w := W3.drew) HT.out hB1)
  have HB4 := Lib.hid ((below_drew HB3.out).trans (hB1.mono HB3.out.size))
  clear q3 q4 hB1
  obtain ⟨q3, q4, _, _⟩ := HT4.out.cells
  go_wp2_with fail
  refine hK.out _ _ (by (try dsimp only); go_keep) (fun hHeld => ?_)
  clear hK K
  try simp only [Act.put, List.setIfInBounds_toArray, List.set_cons_zero, List.set_cons_succ]
  refine wpAnyH_take (i := 6) (oi := { dst := some 51, op := Op.move (Operand.tmp 57), type := 83, pos := "ref.go:183", after := #[{ on := 5, ground := Ground.data }], guard := none }) (v := ?_) rfl (by kernel_rfl) (by kernel_rfl) (by kernel_rfl) (fun _ _ _ h => h) (Or.inl ⟨by rfl, ?_⟩) (by assumption) ?_
  rotate_left
  focus ((intro w hSw; (try dsimp only at hSw); go_simp); (try with_reducible rfl))
  try simp only [Act.put, List.setIfInBounds_toArray, List.set_cons_zero, List.set_cons_succ]
  refine wpAnyH_take (i := 7) (oi := { dst := some 58, op := Op.extract (Operand.tmp 51) 0, type := 33, pos := "ref.go:183", after := #[{ on := 6, ground := Ground.data }], guard := none }) (v := ?_) rfl (by kernel_rfl) (by kernel_rfl) (by kernel_rfl) (fun _ _ _ h => h) (Or.inl ⟨by rfl, ?_⟩) (by assumption) ?_
  rotate_left
  focus ((intro w hSw; (try dsimp only at hSw); go_simp); (try with_reducible rfl))
  try simp only [Act.put, List.setIfInBounds_toArray, List.set_cons_zero, List.set_cons_succ]
  refine wpAnyH_take (i := 8) (oi := { dst := some 59, op := Op.extract (Operand.tmp 51) 1, type := 29, pos := "ref.go:183", after := #[{ on := 6, ground := Ground.data }, { on := 9, ground := Ground.gcOnly Departure.lateStores }], guard := none }) (v := ?_) rfl (by kernel_rfl) (by kernel_rfl) (by kernel_rfl) (fun _ _ _ h => h) (Or.inl ⟨by rfl, ?_⟩) (by assumption) ?_
  rotate_left
  focus ((intro w hSw; (try dsimp only at hSw); go_simp); (try with_reducible rfl))
  try simp only [Act.put, List.setIfInBounds_toArray, List.set_cons_zero, List.set_cons_succ]
  refine wpAnyH_take (i := 9) (oi := { dst := some 9, op := Op.assign (Operand.tmp 58), type := 33, pos := "ref.go:183", after := #[{ on := 7, ground := Ground.data }, { on := 5, ground := Ground.chain }, { on := 0, ground := Ground.phase }, { on := 1, ground := Ground.phase }, { on := 2, ground := Ground.phase }, { on := 3, ground := Ground.phase }, { on := 4, ground := Ground.phase }, { on := 5, ground := Ground.phase }, { on := 6, ground := Ground.phase }, { on := 7, ground := Ground.phase }, { on := 8, ground := Ground.textOnly Departure.lateStores }], guard := none }) (v := ?_) rfl (by kernel_rfl) (by kernel_rfl) (by kernel_rfl) (fun _ _ _ h => h) (Or.inl ⟨by rfl, ?_⟩) (by assumption) ?_
  rotate_left
  focus ((intro w hSw; (try dsimp only at hSw); go_simp); (try with_reducible rfl))
  try simp only [Act.put, List.setIfInBounds_toArray, List.set_cons_zero, List.set_cons_succ]
  refine wpAnyH_take (i := 10) (oi := { dst := some 10, op := Op.assign (Operand.tmp 59), type := 29, pos := "ref.go:183", after := #[{ on := 8, ground := Ground.data }, { on := 9, ground := Ground.chain }, { on := 0, ground := Ground.phase }, { on := 1, ground := Ground.phase }, { on := 2, ground := Ground.phase }, { on := 3, ground := Ground.phase }, { on := 4, ground := Ground.phase }, { on := 5, ground := Ground.phase }, { on := 6, ground := Ground.phase }, { on := 7, ground := Ground.phase }, { on := 8, ground := Ground.phase }, { on := 9, ground := Ground.phase }], guard := none }) (v := ?_) rfl (by kernel_rfl) (by kernel_rfl) (by kernel_rfl) (fun _ _ _ h => h) (Or.inl ⟨by rfl, ?_⟩) (by assumption) ?_
  rotate_left
  focus ((intro w hSw; (try dsimp only at hSw); go_simp); (try with_reducible rfl))
  try simp only [Act.put, List.setIfInBounds_toArray, List.set_cons_zero, List.set_cons_succ]
  refine wpAnyH_done (by kernel_rfl) ?_ _
  clear hHeld
  obtain ⟨f0, f1, f2, f3⟩ := HX4.out.cells
  have hP := HX4.out.put (ci) (a)
  obtain ⟨k0, k1, _, _⟩ := hP.cells
  have HBN := Lib.hid (below_put HB4.out (Nat.le_refl _) (.string (ci)) (.string (a)))
  clear hP
  go_wp2_with fail
  (try simp only [Exit.inBlock, Exit.then])
  exact bodyPost_ret (v := .tuple #[.agg #[.string (ci), .string (a)], .int .i64 (0)]) (by simp [results, Tryz.results34, go_sem, k0, k1]) rfl ⟨rfl, HBN.out⟩


end Go.Proofs.YtahnkmkmoalbhaaGreatDoor

/- Layer 5: amounts, bags and tables as arguments: opened and shut. -/
namespace Go.Proofs.YtahnkmkmoalbhaaGreatDoor
open Go.ChangeShapes Go.WideShapes Go.ChangeAt Go.RowKit

theorem cellsMoney : Tryz.prog.cellsOf 35 = 2 := by kernel_rfl
theorem cellsCur : Tryz.prog.cellsOf 26 = 2 := by kernel_rfl
theorem cellsInt5 : Tryz.prog.cellsOf 33 = 1 := by kernel_rfl
theorem cellsStr5 : Tryz.prog.cellsOf 9 = 1 := by kernel_rfl
theorem cellsGo5 : Tryz.prog.cellsOf 3 = 1 := by kernel_rfl
theorem underMoney : Tryz.prog.underlying 35 = some (.struct #[⟨"Currency", 9, 0, false, "", "", 0⟩, ⟨"Amount", 33, 1, false, "", "", 16⟩]) := by kernel_rfl
theorem underCur : Tryz.prog.underlying 26 = some (.struct #[⟨"Code", 9, 0, false, "", "", 0⟩, ⟨"Places", 3, 1, false, "", "", 16⟩]) := by kernel_rfl

set_option maxRecDepth 100000 in
/-- an amount as an argument: opened and shut -/
theorem open_money {H : Type} {enc : TypeId × Value → H} {w : World} {r : Reach} {b0 base : Nat} {sp : Nat → Bool} {held : Bool} {v : Value} {d : DataW H} {ps : List MemPlace} (hval : Value.okWide Tryz.prog w r b0 35 v) (hd : DataW.Trod enc Tryz.prog w base sp held 35 v d ps) :
    ∃ a b : ByteArray, v = .agg #[.string a, .string b] ∧ d = .agg [.lit (.string a.data.toList), .lit (.string b.data.toList)] ∧ ps = [] ∧ a.size ≤ maxLen ∧ b.size ≤ maxLen := by
  obtain ⟨c0, c1, y0, y1, m, rfl, rfl, rfl, hy0, hy1⟩ := Joins.open_agg2 underMoney (by kernel_rfl) cellsMoney hval hd
  obtain ⟨a, e0, rfl, wa⟩ := DataW.trod_string Tryz.underlying9 hy0
  obtain ⟨b, e1, rfl, wb⟩ := DataW.trod_string Tryz.underlying33 hy1
  simp at e0 e1
  subst e0 e1
  exact ⟨a, b, rfl, rfl, rfl, wa, wb⟩
set_option maxRecDepth 100000 in
theorem shut_money {H : Type} {enc : TypeId × Value → H} {w : World} {base : Nat} {sp : Nat → Bool} {held : Bool} {a b : ByteArray} (wa : a.size ≤ maxLen) (wb : b.size ≤ maxLen) :
    DataW.Trod enc Tryz.prog w base sp held 35 (.agg #[.string a, .string b]) (.agg [.lit (.string a.data.toList), .lit (.string b.data.toList)]) [] :=
  Joins.shut_agg2 (y0 := (.lit (.string a.data.toList), [])) (y1 := (.lit (.string b.data.toList), [])) underMoney (by kernel_rfl) cellsMoney
    ⟨1, by simp [DataW.trod, Tryz.underlying9, wa]⟩ ⟨1, by simp [DataW.trod, Tryz.underlying33, wb]⟩


set_option maxRecDepth 100000 in
/-- a slice of amounts as an argument -/
theorem open_Moneys {H : Type} {enc : TypeId × Value → H} {w : World} {r : Reach} {b0 : Nat} {v : Value} {d : DataW H} {ps : List MemPlace} (hval : Value.okWide Tryz.prog w r b0 32 v) (hd : DataW.Trod enc Tryz.prog w 0 (fun _ => true) true 32 v d ps) :
    ∃ xa n cap s t, v = .slice xa n cap ∧ Rf w xa n s t ∧ n ≤ 9223372036854775807 ∧ n ≤ cap := by
  obtain ⟨a0, len, cap, rfl⟩ := okWide_slice Tryz.underlying32 hval
  obtain ⟨fuel, hf⟩ := hd
  rcases Go.Deep.open_slice_pairs Tryz.underlying32 underMoney cellsMoney rfl rfl cellsStr5 cellsInt5 hf with ⟨hcs, hx⟩ | ⟨a, len', cap', m, n, V0, V1, D0, D1, P0, P1, hcs, _, hl, hm, hmm, hx, hcell⟩
  · simp [Value.cells] at hcs
    obtain ⟨rfl, rfl, rfl⟩ := hcs
    exact ⟨none, 0, 0, fun _ => ⟨#[]⟩, fun _ => ⟨#[]⟩, rfl, Rc.nil _ _ _, by omega, by omega⟩
  · simp [Value.cells] at hcs
    obtain ⟨rfl, rfl, rfl⟩ := hcs
    simp only [if_true] at hmm
    have hmm2 : cap = m := hmm.symm
    subst hmm2
    have each : ∀ i, i < len → ∃ q : ByteArray × ByteArray, V0 i = .string q.1 ∧ V1 i = .string q.2 := fun i hi => by
      obtain ⟨_, _, t0, t1⟩ := hcell i (by omega)
      obtain ⟨x, e0, _, _⟩ := DataW.trod_string Tryz.underlying9 t0
      obtain ⟨y, e1, _, _⟩ := DataW.trod_string Tryz.underlying33 t1
      simp at e0 e1
      exact ⟨(x, y), e0, e1⟩
    obtain ⟨q, hq⟩ := Go.Deep.choose_lt each
    refine ⟨some a, len, cap, fun i => (q i).1, fun i => (q i).2, rfl, ⟨fun h0 => ?_⟩, by unfold maxLen at hm; omega, hl⟩
    obtain ⟨b, off, spot⟩ := a
    have hspot : spot = none := by simpa [Addr.add] using World.cell?_spot (hcell 0 (by omega)).1
    subst hspot
    have add : ∀ i, (⟨b, off, none⟩ : Addr).add i = ⟨b, off + i, none⟩ := fun i => by unfold Addr.add; split <;> simp_all
    have hc : ∀ i, i < len * 2 → w.cell? ⟨b, off + i, none⟩ = some (.string (if i % 2 = 0 then (q (i / 2)).1 else (q (i / 2)).2)) := fun i hi => by
      obtain ⟨h1, h2, _, _⟩ := hcell (i / 2) (by omega)
      rw [add, (hq (i / 2) (by omega)).1] at h1
      rw [add, (hq (i / 2) (by omega)).2] at h2
      by_cases e : i % 2 = 0
      · rw [if_pos e, ← h1]; congr 2; omega
      · rw [if_neg e, ← h2]; congr 2; omega
    exact ⟨b, off, rfl, World.block_lt_of_cell? w ⟨b, off + 0, none⟩ (hc 0 h0), hc⟩

set_option maxRecDepth 100000 in
/-- a table as an argument -/
theorem open_Currs {H : Type} {enc : TypeId × Value → H} {w : World} {r : Reach} {b0 : Nat} {v : Value} {d : DataW H} {ps : List MemPlace} (hval : Value.okWide Tryz.prog w r b0 22 v) (hd : DataW.Trod enc Tryz.prog w 0 (fun _ => true) true 22 v d ps) :
    ∃ xa n cap s t, v = .slice xa n cap ∧ Rt w xa n s t ∧ n ≤ 9223372036854775807 ∧ n ≤ cap := by
  obtain ⟨a0, len, cap, rfl⟩ := okWide_slice Tryz.underlying22 hval
  obtain ⟨fuel, hf⟩ := hd
  rcases Go.Deep.open_slice_pairs Tryz.underlying22 underCur cellsCur rfl rfl cellsStr5 cellsGo5 hf with ⟨hcs, hx⟩ | ⟨a, len', cap', m, n, V0, V1, D0, D1, P0, P1, hcs, _, hl, hm, hmm, hx, hcell⟩
  · simp [Value.cells] at hcs
    obtain ⟨rfl, rfl, rfl⟩ := hcs
    exact ⟨none, 0, 0, fun _ => ⟨#[]⟩, fun _ => 0, rfl, Rc.nil _ _ _, by omega, by omega⟩
  · simp [Value.cells] at hcs
    obtain ⟨rfl, rfl, rfl⟩ := hcs
    simp only [if_true] at hmm
    have hmm2 : cap = m := hmm.symm
    subst hmm2
    have each : ∀ i, i < len → ∃ q : ByteArray × Int, V0 i = .string q.1 ∧ V1 i = .int .i64 q.2 := fun i hi => by
      obtain ⟨_, _, t0, t1⟩ := hcell i (by omega)
      obtain ⟨x, e0, _, _⟩ := DataW.trod_string Tryz.underlying9 t0
      obtain ⟨y, e1, _, _⟩ := DataW.trod_int Tryz.underlying3 t1
      simp at e0 e1
      exact ⟨(x, y), e0, e1⟩
    obtain ⟨q, hq⟩ := Go.Deep.choose_lt each
    refine ⟨some a, len, cap, fun i => (q i).1, fun i => (q i).2, rfl, ⟨fun h0 => ?_⟩, by unfold maxLen at hm; omega, hl⟩
    obtain ⟨b, off, spot⟩ := a
    have hspot : spot = none := by simpa [Addr.add] using World.cell?_spot (hcell 0 (by omega)).1
    subst hspot
    have add : ∀ i, (⟨b, off, none⟩ : Addr).add i = ⟨b, off + i, none⟩ := fun i => by unfold Addr.add; split <;> simp_all
    have hc : ∀ i, i < len * 2 → w.cell? ⟨b, off + i, none⟩ = some (if i % 2 = 0 then .string (q (i / 2)).1 else .int .i64 (q (i / 2)).2) := fun i hi => by
      obtain ⟨h1, h2, _, _⟩ := hcell (i / 2) (by omega)
      rw [add, (hq (i / 2) (by omega)).1] at h1
      rw [add, (hq (i / 2) (by omega)).2] at h2
      by_cases e : i % 2 = 0
      · rw [if_pos e, ← h1]; congr 2; omega
      · rw [if_neg e, ← h2]; congr 2; omega
    exact ⟨b, off, rfl, World.block_lt_of_cell? w ⟨b, off + 0, none⟩ (hc 0 h0), hc⟩

end Go.Proofs.YtahnkmkmoalbhaaGreatDoor
