/- Layer 5, the program: lowerCode, currencies: the walks. -/
import Derived.Test.YtahnkmkmoalbhaaGreatDoorZAG
import Derived.Test.YtahnkmkmoalbhaaGreatDoorZAJ
import Derived.LoopIn
import Derived.LoopNIn
import Derived.OwnWalkIn
import Derived.RangeFuncBound
import Derived.RangeFuncCalls
import Derived.RangeFuncLeaves
import Derived.RangeFuncNested
import Derived.Shelf.Abstract
import Derived.Shelf.RegionOpen
import Derived.Sort.CutIn
import Derived.Sort.QuietIn
import Derived.TacticsInMore
import Derived.WalkKit
namespace Go.Proofs.YtahnkmkmoalbhaaGreatDoor
open Go.RowKit Go.Shelf

attribute [local go_sem] Oper.semAt_some

set_option maxRecDepth 100000 in
set_option maxHeartbeats 16000000 in
theorem pLow_noB (w : World) (b o n ca : Nat) (yb : Option Addr) (cb : Nat) (x : ByteArray) (h0 : 0 < n) (h1 : w.cell? ⟨b, o, none⟩ = some (.string x)) :
    Calls Tryz.prog 111 #[.slice (some ⟨b, o, none⟩) n ca, .slice yb 0 cb] w fun e w' => e = .returned (.string x) ∧ ∃ q, w' = w.drewN q := by
  have hn1 : (0 : Int) < (n : Int) := by omega
  go_enter Tryz.func111, Tryz.ntmps111
  go_wp2_with fail
  refine wp_region_held_drew (S := fun w' => w'.cell? ⟨b, o, none⟩ = some (.string x)) (by kernel_rfl) (by (try dsimp only); exact h1) (fun hHeld => ?_)
  refine wpAnyH_take (i := 0) (oi := { dst := some 5, op := Op.move (Operand.tmp 1), type := 32, pos := "sums.go:46", after := #[], guard := none }) (v := ?_) rfl (by kernel_rfl) (by kernel_rfl) (by kernel_rfl) (fun _ _ _ h => h) (Or.inl ⟨by rfl, ?_⟩) (by assumption) ?_
  rotate_left
  focus ((intro w hSw; (try dsimp only at hSw); go_simp); (try with_reducible rfl))
  try simp only [Act.put, List.setIfInBounds_toArray, List.set_cons_zero, List.set_cons_succ]
  refine wpAnyH_take (i := 1) (oi := { dst := some 6, op := Op.call { callee := Callee.builtin Builtin.len, args := #[Operand.tmp 5], argTypes := #[32] }, type := 3, pos := "sums.go:46", after := #[{ on := 0, ground := Ground.data }], guard := none }) (v := ?_) rfl (by kernel_rfl) (by kernel_rfl) (by kernel_rfl) (fun _ _ _ h => h) (Or.inl ⟨by rfl, ?_⟩) (by assumption) ?_
  rotate_left
  focus ((intro w hSw; (try dsimp only at hSw); go_simp); (try with_reducible rfl))
  try simp only [Act.put, List.setIfInBounds_toArray, List.set_cons_zero, List.set_cons_succ]
  refine wpAnyH_take (i := 2) (oi := { dst := some 7, op := Op.binOp BinOp.eql 3 (Operand.tmp 6) (Operand.const (Value.int IntKind.i64 0)) 3, type := 4, pos := "sums.go:46", after := #[{ on := 1, ground := Ground.data }], guard := none }) (v := .bool true) rfl (by kernel_rfl) (by kernel_rfl) (by kernel_rfl) (fun _ _ _ h => h) (Or.inl ⟨by rfl, ?_⟩) (by assumption) ?_
  focus ((intro w hSw; (try dsimp only at hSw); go_simp); all_goals (first | rfl | simp))
  try simp only [Act.put, List.setIfInBounds_toArray, List.set_cons_zero, List.set_cons_succ]
  refine wpAnyH_take (i := 3) (oi := { dst := some 8, op := Op.move (Operand.tmp 7), type := 4, pos := "sums.go:46", after := #[{ on := 2, ground := Ground.data }], guard := none }) (v := ?_) rfl (by kernel_rfl) (by kernel_rfl) (by kernel_rfl) (fun _ _ _ h => h) (Or.inl ⟨by rfl, ?_⟩) (by assumption) ?_
  rotate_left
  focus ((intro w hSw; (try dsimp only at hSw); go_simp); (try with_reducible rfl))
  try simp only [Act.put, List.setIfInBounds_toArray, List.set_cons_zero, List.set_cons_succ]
  refine wpAnyH_take (i := 4) (oi := { dst := some 9, op := Op.move (Operand.tmp 0), type := 32, pos := "sums.go:46", after := #[{ on := 3, ground := Ground.guard }], guard := some (3, false) }) (v := undef) rfl (by kernel_rfl) (by kernel_rfl) (by kernel_rfl) (fun _ _ _ h => h) (Or.inr ⟨by rfl, rfl⟩) (by assumption) ?_
  try simp only [Act.put, List.setIfInBounds_toArray, List.set_cons_zero, List.set_cons_succ]
  refine wpAnyH_take (i := 5) (oi := { dst := some 10, op := Op.call { callee := Callee.builtin Builtin.len, args := #[Operand.tmp 9], argTypes := #[32] }, type := 3, pos := "sums.go:46", after := #[{ on := 4, ground := Ground.data }, { on := 3, ground := Ground.guard }], guard := some (3, false) }) (v := undef) rfl (by kernel_rfl) (by kernel_rfl) (by kernel_rfl) (fun _ _ _ h => h) (Or.inr ⟨by rfl, rfl⟩) (by assumption) ?_
  try simp only [Act.put, List.setIfInBounds_toArray, List.set_cons_zero, List.set_cons_succ]
  refine wpAnyH_take (i := 6) (oi := { dst := some 11, op := Op.binOp BinOp.gtr 3 (Operand.tmp 10) (Operand.const (Value.int IntKind.i64 0)) 3, type := 4, pos := "sums.go:46", after := #[{ on := 5, ground := Ground.data }, { on := 3, ground := Ground.guard }], guard := some (3, false) }) (v := undef) rfl (by kernel_rfl) (by kernel_rfl) (by kernel_rfl) (fun _ _ _ h => h) (Or.inr ⟨by rfl, rfl⟩) (by assumption) ?_
  try simp only [Act.put, List.setIfInBounds_toArray, List.set_cons_zero, List.set_cons_succ]
  refine wpAnyH_take (i := 7) (oi := { dst := some 12, op := Op.move (Operand.tmp 11), type := 4, pos := "sums.go:46", after := #[{ on := 6, ground := Ground.data }, { on := 3, ground := Ground.chain }, { on := 3, ground := Ground.guard }], guard := some (3, false) }) (v := undef) rfl (by kernel_rfl) (by kernel_rfl) (by kernel_rfl) (fun _ _ _ h => h) (Or.inr ⟨by rfl, rfl⟩) (by assumption) ?_
  try simp only [Act.put, List.setIfInBounds_toArray, List.set_cons_zero, List.set_cons_succ]
  refine wpAnyH_take (i := 8) (oi := { dst := some 13, op := Op.move (Operand.tmp 0), type := 32, pos := "sums.go:46", after := #[{ on := 7, ground := Ground.guard }], guard := some (7, true) }) (v := undef) rfl (by kernel_rfl) (by kernel_rfl) (by kernel_rfl) (fun _ _ _ h => h) (Or.inr ⟨by rfl, rfl⟩) (by assumption) ?_
  try simp only [Act.put, List.setIfInBounds_toArray, List.set_cons_zero, List.set_cons_succ]
  refine wpAnyH_take (i := 9) (oi := { dst := some 14, op := Op.indexAddr 32 (Operand.tmp 13) (Operand.const (Value.int IntKind.i64 0)), type := 0, pos := "sums.go:46", after := #[{ on := 8, ground := Ground.data }, { on := 7, ground := Ground.guard }], guard := some (7, true) }) (v := undef) rfl (by kernel_rfl) (by kernel_rfl) (by kernel_rfl) (fun _ _ _ h => h) (Or.inr ⟨by rfl, rfl⟩) (by assumption) ?_
  try simp only [Act.put, List.setIfInBounds_toArray, List.set_cons_zero, List.set_cons_succ]
  refine wpAnyH_take (i := 10) (oi := { dst := some 15, op := Op.fieldAddr 35 (Operand.tmp 14) 0, type := 0, pos := "sums.go:46", after := #[{ on := 9, ground := Ground.data }, { on := 7, ground := Ground.guard }], guard := some (7, true) }) (v := undef) rfl (by kernel_rfl) (by kernel_rfl) (by kernel_rfl) (fun _ _ _ h => h) (Or.inr ⟨by rfl, rfl⟩) (by assumption) ?_
  try simp only [Act.put, List.setIfInBounds_toArray, List.set_cons_zero, List.set_cons_succ]
  refine wpAnyH_take (i := 11) (oi := { dst := some 16, op := Op.load 9 (Operand.tmp 15), type := 9, pos := "sums.go:46", after := #[{ on := 10, ground := Ground.data }, { on := 7, ground := Ground.guard }], guard := some (7, true) }) (v := undef) rfl (by kernel_rfl) (by kernel_rfl) (by kernel_rfl) (fun _ _ _ h => h) (Or.inr ⟨by rfl, rfl⟩) (by assumption) ?_
  try simp only [Act.put, List.setIfInBounds_toArray, List.set_cons_zero, List.set_cons_succ]
  refine wpAnyH_take (i := 12) (oi := { dst := some 17, op := Op.move (Operand.tmp 1), type := 32, pos := "sums.go:46", after := #[{ on := 7, ground := Ground.guard }], guard := some (7, true) }) (v := undef) rfl (by kernel_rfl) (by kernel_rfl) (by kernel_rfl) (fun _ _ _ h => h) (Or.inr ⟨by rfl, rfl⟩) (by assumption) ?_
  try simp only [Act.put, List.setIfInBounds_toArray, List.set_cons_zero, List.set_cons_succ]
  refine wpAnyH_take (i := 13) (oi := { dst := some 18, op := Op.indexAddr 32 (Operand.tmp 17) (Operand.const (Value.int IntKind.i64 0)), type := 0, pos := "sums.go:46", after := #[{ on := 12, ground := Ground.data }, { on := 7, ground := Ground.guard }], guard := some (7, true) }) (v := undef) rfl (by kernel_rfl) (by kernel_rfl) (by kernel_rfl) (fun _ _ _ h => h) (Or.inr ⟨by rfl, rfl⟩) (by assumption) ?_
  try simp only [Act.put, List.setIfInBounds_toArray, List.set_cons_zero, List.set_cons_succ]
  refine wpAnyH_take (i := 14) (oi := { dst := some 19, op := Op.fieldAddr 35 (Operand.tmp 18) 0, type := 0, pos := "sums.go:46", after := #[{ on := 13, ground := Ground.data }, { on := 7, ground := Ground.guard }], guard := some (7, true) }) (v := undef) rfl (by kernel_rfl) (by kernel_rfl) (by kernel_rfl) (fun _ _ _ h => h) (Or.inr ⟨by rfl, rfl⟩) (by assumption) ?_
  try simp only [Act.put, List.setIfInBounds_toArray, List.set_cons_zero, List.set_cons_succ]
  refine wpAnyH_take (i := 15) (oi := { dst := some 20, op := Op.load 9 (Operand.tmp 19), type := 9, pos := "sums.go:46", after := #[{ on := 14, ground := Ground.data }, { on := 7, ground := Ground.guard }], guard := some (7, true) }) (v := undef) rfl (by kernel_rfl) (by kernel_rfl) (by kernel_rfl) (fun _ _ _ h => h) (Or.inr ⟨by rfl, rfl⟩) (by assumption) ?_
  try simp only [Act.put, List.setIfInBounds_toArray, List.set_cons_zero, List.set_cons_succ]
  refine wpAnyH_take (i := 16) (oi := { dst := some 21, op := Op.binOp BinOp.lss 9 (Operand.tmp 16) (Operand.tmp 20) 9, type := 4, pos := "sums.go:46", after := #[{ on := 11, ground := Ground.data }, { on := 15, ground := Ground.data }, { on := 7, ground := Ground.guard }], guard := some (7, true) }) (v := undef) rfl (by kernel_rfl) (by kernel_rfl) (by kernel_rfl) (fun _ _ _ h => h) (Or.inr ⟨by rfl, rfl⟩) (by assumption) ?_
  try simp only [Act.put, List.setIfInBounds_toArray, List.set_cons_zero, List.set_cons_succ]
  refine wpAnyH_take (i := 17) (oi := { dst := some 22, op := Op.pick (Operand.tmp 12) (Operand.tmp 21) (Operand.const (Value.bool false)), type := 4, pos := "sums.go:46", after := #[{ on := 7, ground := Ground.data }, { on := 16, ground := Ground.data }, { on := 3, ground := Ground.guard }], guard := some (3, false) }) (v := undef) rfl (by kernel_rfl) (by kernel_rfl) (by kernel_rfl) (fun _ _ _ h => h) (Or.inr ⟨by rfl, rfl⟩) (by assumption) ?_
  try simp only [Act.put, List.setIfInBounds_toArray, List.set_cons_zero, List.set_cons_succ]
  refine wpAnyH_take (i := 18) (oi := { dst := some 23, op := Op.pick (Operand.tmp 8) (Operand.const (Value.bool true)) (Operand.tmp 22), type := 4, pos := "sums.go:46", after := #[{ on := 3, ground := Ground.data }, { on := 17, ground := Ground.data }], guard := none }) (v := ?_) rfl (by kernel_rfl) (by kernel_rfl) (by kernel_rfl) (fun _ _ _ h => h) (Or.inl ⟨by rfl, ?_⟩) (by assumption) ?_
  rotate_left
  focus ((intro w hSw; (try dsimp only at hSw); go_simp); (try with_reducible rfl))
  try simp only [Act.put, List.setIfInBounds_toArray, List.set_cons_zero, List.set_cons_succ]
  refine wpAnyH_done (by kernel_rfl) ?_ _
  clear hHeld
  go_wp2_with fail
  go_ret
  exact ⟨rfl, 1, rfl⟩
set_option maxRecDepth 100000 in
set_option maxHeartbeats 16000000 in
theorem pLow_noA (w : World) (xa : Option Addr) (ca c p m cb : Nat) (y : ByteArray) (h0 : 0 < m) (h2 : w.cell? ⟨c, p, none⟩ = some (.string y)) :
    Calls Tryz.prog 111 #[.slice xa 0 ca, .slice (some ⟨c, p, none⟩) m cb] w fun e w' => e = .returned (.string y) ∧ ∃ q, w' = w.drewN q := by
  have hm1 : (0 : Int) < (m : Int) := by omega
  have hm0 : ((m : Int) == 0) = false := by rw [beq_eq_false_iff_ne]; omega
  go_enter Tryz.func111, Tryz.ntmps111
  go_wp2_with fail
  refine wp_region_held_drew (S := fun w' => w'.cell? ⟨c, p, none⟩ = some (.string y)) (by kernel_rfl) (by (try dsimp only); exact h2) (fun hHeld => ?_)
  refine wpAnyH_take (i := 0) (oi := { dst := some 5, op := Op.move (Operand.tmp 1), type := 32, pos := "sums.go:46", after := #[], guard := none }) (v := ?_) rfl (by kernel_rfl) (by kernel_rfl) (by kernel_rfl) (fun _ _ _ h => h) (Or.inl ⟨by rfl, ?_⟩) (by assumption) ?_
  rotate_left
  focus ((intro w hSw; (try dsimp only at hSw); go_simp); (try with_reducible rfl))
  try simp only [Act.put, List.setIfInBounds_toArray, List.set_cons_zero, List.set_cons_succ]
  refine wpAnyH_take (i := 1) (oi := { dst := some 6, op := Op.call { callee := Callee.builtin Builtin.len, args := #[Operand.tmp 5], argTypes := #[32] }, type := 3, pos := "sums.go:46", after := #[{ on := 0, ground := Ground.data }], guard := none }) (v := ?_) rfl (by kernel_rfl) (by kernel_rfl) (by kernel_rfl) (fun _ _ _ h => h) (Or.inl ⟨by rfl, ?_⟩) (by assumption) ?_
  rotate_left
  focus ((intro w hSw; (try dsimp only at hSw); go_simp); (try with_reducible rfl))
  try simp only [Act.put, List.setIfInBounds_toArray, List.set_cons_zero, List.set_cons_succ]
  refine wpAnyH_take (i := 2) (oi := { dst := some 7, op := Op.binOp BinOp.eql 3 (Operand.tmp 6) (Operand.const (Value.int IntKind.i64 0)) 3, type := 4, pos := "sums.go:46", after := #[{ on := 1, ground := Ground.data }], guard := none }) (v := .bool false) rfl (by kernel_rfl) (by kernel_rfl) (by kernel_rfl) (fun _ _ _ h => h) (Or.inl ⟨by rfl, ?_⟩) (by assumption) ?_
  focus ((intro w hSw; (try dsimp only at hSw); go_simp); all_goals (first | rfl | (simp; omega)))
  try simp only [Act.put, List.setIfInBounds_toArray, List.set_cons_zero, List.set_cons_succ]
  refine wpAnyH_take (i := 3) (oi := { dst := some 8, op := Op.move (Operand.tmp 7), type := 4, pos := "sums.go:46", after := #[{ on := 2, ground := Ground.data }], guard := none }) (v := ?_) rfl (by kernel_rfl) (by kernel_rfl) (by kernel_rfl) (fun _ _ _ h => h) (Or.inl ⟨by rfl, ?_⟩) (by assumption) ?_
  rotate_left
  focus ((intro w hSw; (try dsimp only at hSw); go_simp); (try with_reducible rfl))
  try simp only [Act.put, List.setIfInBounds_toArray, List.set_cons_zero, List.set_cons_succ]
  refine wpAnyH_take (i := 4) (oi := { dst := some 9, op := Op.move (Operand.tmp 0), type := 32, pos := "sums.go:46", after := #[{ on := 3, ground := Ground.guard }], guard := some (3, false) }) (v := ?_) rfl (by kernel_rfl) (by kernel_rfl) (by kernel_rfl) (fun _ _ _ h => h) (Or.inl ⟨by rfl, ?_⟩) (by assumption) ?_
  rotate_left
  focus ((intro w hSw; (try dsimp only at hSw); go_simp); (try with_reducible rfl))
  try simp only [Act.put, List.setIfInBounds_toArray, List.set_cons_zero, List.set_cons_succ]
  refine wpAnyH_take (i := 5) (oi := { dst := some 10, op := Op.call { callee := Callee.builtin Builtin.len, args := #[Operand.tmp 9], argTypes := #[32] }, type := 3, pos := "sums.go:46", after := #[{ on := 4, ground := Ground.data }, { on := 3, ground := Ground.guard }], guard := some (3, false) }) (v := ?_) rfl (by kernel_rfl) (by kernel_rfl) (by kernel_rfl) (fun _ _ _ h => h) (Or.inl ⟨by rfl, ?_⟩) (by assumption) ?_
  rotate_left
  focus ((intro w hSw; (try dsimp only at hSw); go_simp); (try with_reducible rfl))
  try simp only [Act.put, List.setIfInBounds_toArray, List.set_cons_zero, List.set_cons_succ]
  refine wpAnyH_take (i := 6) (oi := { dst := some 11, op := Op.binOp BinOp.gtr 3 (Operand.tmp 10) (Operand.const (Value.int IntKind.i64 0)) 3, type := 4, pos := "sums.go:46", after := #[{ on := 5, ground := Ground.data }, { on := 3, ground := Ground.guard }], guard := some (3, false) }) (v := .bool false) rfl (by kernel_rfl) (by kernel_rfl) (by kernel_rfl) (fun _ _ _ h => h) (Or.inl ⟨by rfl, ?_⟩) (by assumption) ?_
  focus ((intro w hSw; (try dsimp only at hSw); go_simp); all_goals (first | rfl | simp))
  try simp only [Act.put, List.setIfInBounds_toArray, List.set_cons_zero, List.set_cons_succ]
  refine wpAnyH_take (i := 7) (oi := { dst := some 12, op := Op.move (Operand.tmp 11), type := 4, pos := "sums.go:46", after := #[{ on := 6, ground := Ground.data }, { on := 3, ground := Ground.chain }, { on := 3, ground := Ground.guard }], guard := some (3, false) }) (v := ?_) rfl (by kernel_rfl) (by kernel_rfl) (by kernel_rfl) (fun _ _ _ h => h) (Or.inl ⟨by rfl, ?_⟩) (by assumption) ?_
  rotate_left
  focus ((intro w hSw; (try dsimp only at hSw); go_simp); (try with_reducible rfl))
  try simp only [Act.put, List.setIfInBounds_toArray, List.set_cons_zero, List.set_cons_succ]
  refine wpAnyH_take (i := 8) (oi := { dst := some 13, op := Op.move (Operand.tmp 0), type := 32, pos := "sums.go:46", after := #[{ on := 7, ground := Ground.guard }], guard := some (7, true) }) (v := undef) rfl (by kernel_rfl) (by kernel_rfl) (by kernel_rfl) (fun _ _ _ h => h) (Or.inr ⟨by rfl, rfl⟩) (by assumption) ?_
  try simp only [Act.put, List.setIfInBounds_toArray, List.set_cons_zero, List.set_cons_succ]
  refine wpAnyH_take (i := 9) (oi := { dst := some 14, op := Op.indexAddr 32 (Operand.tmp 13) (Operand.const (Value.int IntKind.i64 0)), type := 0, pos := "sums.go:46", after := #[{ on := 8, ground := Ground.data }, { on := 7, ground := Ground.guard }], guard := some (7, true) }) (v := undef) rfl (by kernel_rfl) (by kernel_rfl) (by kernel_rfl) (fun _ _ _ h => h) (Or.inr ⟨by rfl, rfl⟩) (by assumption) ?_
  try simp only [Act.put, List.setIfInBounds_toArray, List.set_cons_zero, List.set_cons_succ]
  refine wpAnyH_take (i := 10) (oi := { dst := some 15, op := Op.fieldAddr 35 (Operand.tmp 14) 0, type := 0, pos := "sums.go:46", after := #[{ on := 9, ground := Ground.data }, { on := 7, ground := Ground.guard }], guard := some (7, true) }) (v := undef) rfl (by kernel_rfl) (by kernel_rfl) (by kernel_rfl) (fun _ _ _ h => h) (Or.inr ⟨by rfl, rfl⟩) (by assumption) ?_
  try simp only [Act.put, List.setIfInBounds_toArray, List.set_cons_zero, List.set_cons_succ]
  refine wpAnyH_take (i := 11) (oi := { dst := some 16, op := Op.load 9 (Operand.tmp 15), type := 9, pos := "sums.go:46", after := #[{ on := 10, ground := Ground.data }, { on := 7, ground := Ground.guard }], guard := some (7, true) }) (v := undef) rfl (by kernel_rfl) (by kernel_rfl) (by kernel_rfl) (fun _ _ _ h => h) (Or.inr ⟨by rfl, rfl⟩) (by assumption) ?_
  try simp only [Act.put, List.setIfInBounds_toArray, List.set_cons_zero, List.set_cons_succ]
  refine wpAnyH_take (i := 12) (oi := { dst := some 17, op := Op.move (Operand.tmp 1), type := 32, pos := "sums.go:46", after := #[{ on := 7, ground := Ground.guard }], guard := some (7, true) }) (v := undef) rfl (by kernel_rfl) (by kernel_rfl) (by kernel_rfl) (fun _ _ _ h => h) (Or.inr ⟨by rfl, rfl⟩) (by assumption) ?_
  try simp only [Act.put, List.setIfInBounds_toArray, List.set_cons_zero, List.set_cons_succ]
  refine wpAnyH_take (i := 13) (oi := { dst := some 18, op := Op.indexAddr 32 (Operand.tmp 17) (Operand.const (Value.int IntKind.i64 0)), type := 0, pos := "sums.go:46", after := #[{ on := 12, ground := Ground.data }, { on := 7, ground := Ground.guard }], guard := some (7, true) }) (v := undef) rfl (by kernel_rfl) (by kernel_rfl) (by kernel_rfl) (fun _ _ _ h => h) (Or.inr ⟨by rfl, rfl⟩) (by assumption) ?_
  try simp only [Act.put, List.setIfInBounds_toArray, List.set_cons_zero, List.set_cons_succ]
  refine wpAnyH_take (i := 14) (oi := { dst := some 19, op := Op.fieldAddr 35 (Operand.tmp 18) 0, type := 0, pos := "sums.go:46", after := #[{ on := 13, ground := Ground.data }, { on := 7, ground := Ground.guard }], guard := some (7, true) }) (v := undef) rfl (by kernel_rfl) (by kernel_rfl) (by kernel_rfl) (fun _ _ _ h => h) (Or.inr ⟨by rfl, rfl⟩) (by assumption) ?_
  try simp only [Act.put, List.setIfInBounds_toArray, List.set_cons_zero, List.set_cons_succ]
  refine wpAnyH_take (i := 15) (oi := { dst := some 20, op := Op.load 9 (Operand.tmp 19), type := 9, pos := "sums.go:46", after := #[{ on := 14, ground := Ground.data }, { on := 7, ground := Ground.guard }], guard := some (7, true) }) (v := undef) rfl (by kernel_rfl) (by kernel_rfl) (by kernel_rfl) (fun _ _ _ h => h) (Or.inr ⟨by rfl, rfl⟩) (by assumption) ?_
  try simp only [Act.put, List.setIfInBounds_toArray, List.set_cons_zero, List.set_cons_succ]
  refine wpAnyH_take (i := 16) (oi := { dst := some 21, op := Op.binOp BinOp.lss 9 (Operand.tmp 16) (Operand.tmp 20) 9, type := 4, pos := "sums.go:46", after := #[{ on := 11, ground := Ground.data }, { on := 15, ground := Ground.data }, { on := 7, ground := Ground.guard }], guard := some (7, true) }) (v := undef) rfl (by kernel_rfl) (by kernel_rfl) (by kernel_rfl) (fun _ _ _ h => h) (Or.inr ⟨by rfl, rfl⟩) (by assumption) ?_
  try simp only [Act.put, List.setIfInBounds_toArray, List.set_cons_zero, List.set_cons_succ]
  refine wpAnyH_take (i := 17) (oi := { dst := some 22, op := Op.pick (Operand.tmp 12) (Operand.tmp 21) (Operand.const (Value.bool false)), type := 4, pos := "sums.go:46", after := #[{ on := 7, ground := Ground.data }, { on := 16, ground := Ground.data }, { on := 3, ground := Ground.guard }], guard := some (3, false) }) (v := ?_) rfl (by kernel_rfl) (by kernel_rfl) (by kernel_rfl) (fun _ _ _ h => h) (Or.inl ⟨by rfl, ?_⟩) (by assumption) ?_
  rotate_left
  focus ((intro w hSw; (try dsimp only at hSw); go_simp); (try with_reducible rfl))
  try simp only [Act.put, List.setIfInBounds_toArray, List.set_cons_zero, List.set_cons_succ]
  refine wpAnyH_take (i := 18) (oi := { dst := some 23, op := Op.pick (Operand.tmp 8) (Operand.const (Value.bool true)) (Operand.tmp 22), type := 4, pos := "sums.go:46", after := #[{ on := 3, ground := Ground.data }, { on := 17, ground := Ground.data }], guard := none }) (v := ?_) rfl (by kernel_rfl) (by kernel_rfl) (by kernel_rfl) (fun _ _ _ h => h) (Or.inl ⟨by rfl, ?_⟩) (by assumption) ?_
  rotate_left
  focus ((intro w hSw; (try dsimp only at hSw); go_simp); (try with_reducible rfl))
  try simp only [Act.put, List.setIfInBounds_toArray, List.set_cons_zero, List.set_cons_succ]
  refine wpAnyH_done (by kernel_rfl) ?_ _
  clear hHeld
  go_wp2_with fail
  go_ret
  exact ⟨rfl, 1, rfl⟩
set_option maxRecDepth 100000 in
set_option maxHeartbeats 16000000 in
theorem pLow_lt (w : World) (b o n ca c p m cb : Nat) (x y : ByteArray) (h0 : 0 < n) (g0 : 0 < m) (h1 : w.cell? ⟨b, o, none⟩ = some (.string x)) (h2 : w.cell? ⟨c, p, none⟩ = some (.string y)) (hbl : bl x y = true) :
    Calls Tryz.prog 111 #[.slice (some ⟨b, o, none⟩) n ca, .slice (some ⟨c, p, none⟩) m cb] w fun e w' => e = .returned (.string x) ∧ ∃ q, w' = w.drewN q := by
  have hn1 : (0 : Int) < (n : Int) := by omega
  have hm1 : (0 : Int) < (m : Int) := by omega
  have hm0 : ((m : Int) == 0) = false := by rw [beq_eq_false_iff_ne]; omega
  unfold bl at hbl
  go_enter Tryz.func111, Tryz.ntmps111
  go_wp2_with fail
  refine wp_region_held_drew (S := fun w' => w'.cell? ⟨b, o, none⟩ = some (.string x) ∧ w'.cell? ⟨c, p, none⟩ = some (.string y)) (by kernel_rfl) (by (try dsimp only); exact ⟨h1, h2⟩) (fun hHeld => ?_)
  refine wpAnyH_take (i := 0) (oi := { dst := some 5, op := Op.move (Operand.tmp 1), type := 32, pos := "sums.go:46", after := #[], guard := none }) (v := ?_) rfl (by kernel_rfl) (by kernel_rfl) (by kernel_rfl) (fun _ _ _ h => h) (Or.inl ⟨by rfl, ?_⟩) (by assumption) ?_
  rotate_left
  focus ((intro w hSw; (try dsimp only at hSw); go_simp); (try with_reducible rfl))
  try simp only [Act.put, List.setIfInBounds_toArray, List.set_cons_zero, List.set_cons_succ]
  refine wpAnyH_take (i := 1) (oi := { dst := some 6, op := Op.call { callee := Callee.builtin Builtin.len, args := #[Operand.tmp 5], argTypes := #[32] }, type := 3, pos := "sums.go:46", after := #[{ on := 0, ground := Ground.data }], guard := none }) (v := ?_) rfl (by kernel_rfl) (by kernel_rfl) (by kernel_rfl) (fun _ _ _ h => h) (Or.inl ⟨by rfl, ?_⟩) (by assumption) ?_
  rotate_left
  focus ((intro w hSw; (try dsimp only at hSw); go_simp); (try with_reducible rfl))
  try simp only [Act.put, List.setIfInBounds_toArray, List.set_cons_zero, List.set_cons_succ]
  refine wpAnyH_take (i := 2) (oi := { dst := some 7, op := Op.binOp BinOp.eql 3 (Operand.tmp 6) (Operand.const (Value.int IntKind.i64 0)) 3, type := 4, pos := "sums.go:46", after := #[{ on := 1, ground := Ground.data }], guard := none }) (v := .bool false) rfl (by kernel_rfl) (by kernel_rfl) (by kernel_rfl) (fun _ _ _ h => h) (Or.inl ⟨by rfl, ?_⟩) (by assumption) ?_
  focus ((intro w hSw; (try dsimp only at hSw); go_simp); all_goals (first | rfl | (simp; omega)))
  try simp only [Act.put, List.setIfInBounds_toArray, List.set_cons_zero, List.set_cons_succ]
  refine wpAnyH_take (i := 3) (oi := { dst := some 8, op := Op.move (Operand.tmp 7), type := 4, pos := "sums.go:46", after := #[{ on := 2, ground := Ground.data }], guard := none }) (v := ?_) rfl (by kernel_rfl) (by kernel_rfl) (by kernel_rfl) (fun _ _ _ h => h) (Or.inl ⟨by rfl, ?_⟩) (by assumption) ?_
  rotate_left
  focus ((intro w hSw; (try dsimp only at hSw); go_simp); (try with_reducible rfl))
  try simp only [Act.put, List.setIfInBounds_toArray, List.set_cons_zero, List.set_cons_succ]
  refine wpAnyH_take (i := 4) (oi := { dst := some 9, op := Op.move (Operand.tmp 0), type := 32, pos := "sums.go:46", after := #[{ on := 3, ground := Ground.guard }], guard := some (3, false) }) (v := ?_) rfl (by kernel_rfl) (by kernel_rfl) (by kernel_rfl) (fun _ _ _ h => h) (Or.inl ⟨by rfl, ?_⟩) (by assumption) ?_
  rotate_left
  focus ((intro w hSw; (try dsimp only at hSw); go_simp); (try with_reducible rfl))
  try simp only [Act.put, List.setIfInBounds_toArray, List.set_cons_zero, List.set_cons_succ]
  refine wpAnyH_take (i := 5) (oi := { dst := some 10, op := Op.call { callee := Callee.builtin Builtin.len, args := #[Operand.tmp 9], argTypes := #[32] }, type := 3, pos := "sums.go:46", after := #[{ on := 4, ground := Ground.data }, { on := 3, ground := Ground.guard }], guard := some (3, false) }) (v := ?_) rfl (by kernel_rfl) (by kernel_rfl) (by kernel_rfl) (fun _ _ _ h => h) (Or.inl ⟨by rfl, ?_⟩) (by assumption) ?_
  rotate_left
  focus ((intro w hSw; (try dsimp only at hSw); go_simp); (try with_reducible rfl))
  try simp only [Act.put, List.setIfInBounds_toArray, List.set_cons_zero, List.set_cons_succ]
  refine wpAnyH_take (i := 6) (oi := { dst := some 11, op := Op.binOp BinOp.gtr 3 (Operand.tmp 10) (Operand.const (Value.int IntKind.i64 0)) 3, type := 4, pos := "sums.go:46", after := #[{ on := 5, ground := Ground.data }, { on := 3, ground := Ground.guard }], guard := some (3, false) }) (v := .bool true) rfl (by kernel_rfl) (by kernel_rfl) (by kernel_rfl) (fun _ _ _ h => h) (Or.inl ⟨by rfl, ?_⟩) (by assumption) ?_
  focus ((intro w hSw; (try dsimp only at hSw); go_simp); all_goals (first | rfl | (simp; omega)))
  try simp only [Act.put, List.setIfInBounds_toArray, List.set_cons_zero, List.set_cons_succ]
  refine wpAnyH_take (i := 7) (oi := { dst := some 12, op := Op.move (Operand.tmp 11), type := 4, pos := "sums.go:46", after := #[{ on := 6, ground := Ground.data }, { on := 3, ground := Ground.chain }, { on := 3, ground := Ground.guard }], guard := some (3, false) }) (v := ?_) rfl (by kernel_rfl) (by kernel_rfl) (by kernel_rfl) (fun _ _ _ h => h) (Or.inl ⟨by rfl, ?_⟩) (by assumption) ?_
  rotate_left
  focus ((intro w hSw; (try dsimp only at hSw); go_simp); (try with_reducible rfl))
  try simp only [Act.put, List.setIfInBounds_toArray, List.set_cons_zero, List.set_cons_succ]
  refine wpAnyH_take (i := 8) (oi := { dst := some 13, op := Op.move (Operand.tmp 0), type := 32, pos := "sums.go:46", after := #[{ on := 7, ground := Ground.guard }], guard := some (7, true) }) (v := ?_) rfl (by kernel_rfl) (by kernel_rfl) (by kernel_rfl) (fun _ _ _ h => h) (Or.inl ⟨by rfl, ?_⟩) (by assumption) ?_
  rotate_left
  focus ((intro w hSw; (try dsimp only at hSw); go_simp); (try with_reducible rfl))
  try simp only [Act.put, List.setIfInBounds_toArray, List.set_cons_zero, List.set_cons_succ]
  refine wpAnyH_take (i := 9) (oi := { dst := some 14, op := Op.indexAddr 32 (Operand.tmp 13) (Operand.const (Value.int IntKind.i64 0)), type := 0, pos := "sums.go:46", after := #[{ on := 8, ground := Ground.data }, { on := 7, ground := Ground.guard }], guard := some (7, true) }) (v := ?_) rfl (by kernel_rfl) (by kernel_rfl) (by kernel_rfl) (fun _ _ _ h => h) (Or.inl ⟨by rfl, ?_⟩) (by assumption) ?_
  rotate_left
  focus ((intro w hSw; (try dsimp only at hSw); go_simp); (try with_reducible rfl))
  try simp only [Act.put, List.setIfInBounds_toArray, List.set_cons_zero, List.set_cons_succ]
  refine wpAnyH_take (i := 10) (oi := { dst := some 15, op := Op.fieldAddr 35 (Operand.tmp 14) 0, type := 0, pos := "sums.go:46", after := #[{ on := 9, ground := Ground.data }, { on := 7, ground := Ground.guard }], guard := some (7, true) }) (v := ?_) rfl (by kernel_rfl) (by kernel_rfl) (by kernel_rfl) (fun _ _ _ h => h) (Or.inl ⟨by rfl, ?_⟩) (by assumption) ?_
  rotate_left
  focus ((intro w hSw; (try dsimp only at hSw); go_simp); (try with_reducible rfl))
  try simp only [Act.put, List.setIfInBounds_toArray, List.set_cons_zero, List.set_cons_succ]
  refine wpAnyH_take (i := 11) (oi := { dst := some 16, op := Op.load 9 (Operand.tmp 15), type := 9, pos := "sums.go:46", after := #[{ on := 10, ground := Ground.data }, { on := 7, ground := Ground.guard }], guard := some (7, true) }) (v := ?_) rfl (by kernel_rfl) (by kernel_rfl) (by kernel_rfl) (fun _ _ _ h => h) (Or.inl ⟨by rfl, ?_⟩) (by assumption) ?_
  rotate_left
  focus ((intro w hSw; (try dsimp only at hSw); go_simp); (try with_reducible rfl))
  try simp only [Act.put, List.setIfInBounds_toArray, List.set_cons_zero, List.set_cons_succ]
  refine wpAnyH_take (i := 12) (oi := { dst := some 17, op := Op.move (Operand.tmp 1), type := 32, pos := "sums.go:46", after := #[{ on := 7, ground := Ground.guard }], guard := some (7, true) }) (v := ?_) rfl (by kernel_rfl) (by kernel_rfl) (by kernel_rfl) (fun _ _ _ h => h) (Or.inl ⟨by rfl, ?_⟩) (by assumption) ?_
  rotate_left
  focus ((intro w hSw; (try dsimp only at hSw); go_simp); (try with_reducible rfl))
  try simp only [Act.put, List.setIfInBounds_toArray, List.set_cons_zero, List.set_cons_succ]
  refine wpAnyH_take (i := 13) (oi := { dst := some 18, op := Op.indexAddr 32 (Operand.tmp 17) (Operand.const (Value.int IntKind.i64 0)), type := 0, pos := "sums.go:46", after := #[{ on := 12, ground := Ground.data }, { on := 7, ground := Ground.guard }], guard := some (7, true) }) (v := ?_) rfl (by kernel_rfl) (by kernel_rfl) (by kernel_rfl) (fun _ _ _ h => h) (Or.inl ⟨by rfl, ?_⟩) (by assumption) ?_
  rotate_left
  focus ((intro w hSw; (try dsimp only at hSw); go_simp); (try with_reducible rfl))
  try simp only [Act.put, List.setIfInBounds_toArray, List.set_cons_zero, List.set_cons_succ]
  refine wpAnyH_take (i := 14) (oi := { dst := some 19, op := Op.fieldAddr 35 (Operand.tmp 18) 0, type := 0, pos := "sums.go:46", after := #[{ on := 13, ground := Ground.data }, { on := 7, ground := Ground.guard }], guard := some (7, true) }) (v := ?_) rfl (by kernel_rfl) (by kernel_rfl) (by kernel_rfl) (fun _ _ _ h => h) (Or.inl ⟨by rfl, ?_⟩) (by assumption) ?_
  rotate_left
  focus ((intro w hSw; (try dsimp only at hSw); go_simp); (try with_reducible rfl))
  try simp only [Act.put, List.setIfInBounds_toArray, List.set_cons_zero, List.set_cons_succ]
  refine wpAnyH_take (i := 15) (oi := { dst := some 20, op := Op.load 9 (Operand.tmp 19), type := 9, pos := "sums.go:46", after := #[{ on := 14, ground := Ground.data }, { on := 7, ground := Ground.guard }], guard := some (7, true) }) (v := ?_) rfl (by kernel_rfl) (by kernel_rfl) (by kernel_rfl) (fun _ _ _ h => h) (Or.inl ⟨by rfl, ?_⟩) (by assumption) ?_
  rotate_left
  focus ((intro w hSw; (try dsimp only at hSw); go_simp); (try with_reducible rfl))
  try simp only [Act.put, List.setIfInBounds_toArray, List.set_cons_zero, List.set_cons_succ]
  refine wpAnyH_take (i := 16) (oi := { dst := some 21, op := Op.binOp BinOp.lss 9 (Operand.tmp 16) (Operand.tmp 20) 9, type := 4, pos := "sums.go:46", after := #[{ on := 11, ground := Ground.data }, { on := 15, ground := Ground.data }, { on := 7, ground := Ground.guard }], guard := some (7, true) }) (v := .bool true) rfl (by kernel_rfl) (by kernel_rfl) (by kernel_rfl) (fun _ _ _ h => h) (Or.inl ⟨by rfl, ?_⟩) (by assumption) ?_
  focus ((intro w hSw; (try dsimp only at hSw); go_simp); all_goals (first | rfl | (rw [hbl]; rfl) | (rw [hbl]) | (simp [hbl])))
  try simp only [Act.put, List.setIfInBounds_toArray, List.set_cons_zero, List.set_cons_succ]
  refine wpAnyH_take (i := 17) (oi := { dst := some 22, op := Op.pick (Operand.tmp 12) (Operand.tmp 21) (Operand.const (Value.bool false)), type := 4, pos := "sums.go:46", after := #[{ on := 7, ground := Ground.data }, { on := 16, ground := Ground.data }, { on := 3, ground := Ground.guard }], guard := some (3, false) }) (v := ?_) rfl (by kernel_rfl) (by kernel_rfl) (by kernel_rfl) (fun _ _ _ h => h) (Or.inl ⟨by rfl, ?_⟩) (by assumption) ?_
  rotate_left
  focus ((intro w hSw; (try dsimp only at hSw); go_simp); (try with_reducible rfl))
  try simp only [Act.put, List.setIfInBounds_toArray, List.set_cons_zero, List.set_cons_succ]
  refine wpAnyH_take (i := 18) (oi := { dst := some 23, op := Op.pick (Operand.tmp 8) (Operand.const (Value.bool true)) (Operand.tmp 22), type := 4, pos := "sums.go:46", after := #[{ on := 3, ground := Ground.data }, { on := 17, ground := Ground.data }], guard := none }) (v := ?_) rfl (by kernel_rfl) (by kernel_rfl) (by kernel_rfl) (fun _ _ _ h => h) (Or.inl ⟨by rfl, ?_⟩) (by assumption) ?_
  rotate_left
  focus ((intro w hSw; (try dsimp only at hSw); go_simp); (try with_reducible rfl))
  try simp only [Act.put, List.setIfInBounds_toArray, List.set_cons_zero, List.set_cons_succ]
  refine wpAnyH_done (by kernel_rfl) ?_ _
  clear hHeld
  go_wp2_with fail
  go_ret
  exact ⟨rfl, 1, rfl⟩
set_option maxRecDepth 100000 in
set_option maxHeartbeats 16000000 in
theorem pLow_ge (w : World) (b o n ca c p m cb : Nat) (x y : ByteArray) (h0 : 0 < n) (g0 : 0 < m) (h1 : w.cell? ⟨b, o, none⟩ = some (.string x)) (h2 : w.cell? ⟨c, p, none⟩ = some (.string y)) (hbl : bl x y = false) :
    Calls Tryz.prog 111 #[.slice (some ⟨b, o, none⟩) n ca, .slice (some ⟨c, p, none⟩) m cb] w fun e w' => e = .returned (.string y) ∧ ∃ q, w' = w.drewN q := by
  have hn1 : (0 : Int) < (n : Int) := by omega
  have hm1 : (0 : Int) < (m : Int) := by omega
  have hm0 : ((m : Int) == 0) = false := by rw [beq_eq_false_iff_ne]; omega
  unfold bl at hbl
  go_enter Tryz.func111, Tryz.ntmps111
  go_wp2_with fail
  refine wp_region_held_drew (S := fun w' => w'.cell? ⟨b, o, none⟩ = some (.string x) ∧ w'.cell? ⟨c, p, none⟩ = some (.string y)) (by kernel_rfl) (by (try dsimp only); exact ⟨h1, h2⟩) (fun hHeld => ?_)
  refine wpAnyH_take (i := 0) (oi := { dst := some 5, op := Op.move (Operand.tmp 1), type := 32, pos := "sums.go:46", after := #[], guard := none }) (v := ?_) rfl (by kernel_rfl) (by kernel_rfl) (by kernel_rfl) (fun _ _ _ h => h) (Or.inl ⟨by rfl, ?_⟩) (by assumption) ?_
  rotate_left
  focus ((intro w hSw; (try dsimp only at hSw); go_simp); (try with_reducible rfl))
  try simp only [Act.put, List.setIfInBounds_toArray, List.set_cons_zero, List.set_cons_succ]
  refine wpAnyH_take (i := 1) (oi := { dst := some 6, op := Op.call { callee := Callee.builtin Builtin.len, args := #[Operand.tmp 5], argTypes := #[32] }, type := 3, pos := "sums.go:46", after := #[{ on := 0, ground := Ground.data }], guard := none }) (v := ?_) rfl (by kernel_rfl) (by kernel_rfl) (by kernel_rfl) (fun _ _ _ h => h) (Or.inl ⟨by rfl, ?_⟩) (by assumption) ?_
  rotate_left
  focus ((intro w hSw; (try dsimp only at hSw); go_simp); (try with_reducible rfl))
  try simp only [Act.put, List.setIfInBounds_toArray, List.set_cons_zero, List.set_cons_succ]
  refine wpAnyH_take (i := 2) (oi := { dst := some 7, op := Op.binOp BinOp.eql 3 (Operand.tmp 6) (Operand.const (Value.int IntKind.i64 0)) 3, type := 4, pos := "sums.go:46", after := #[{ on := 1, ground := Ground.data }], guard := none }) (v := .bool false) rfl (by kernel_rfl) (by kernel_rfl) (by kernel_rfl) (fun _ _ _ h => h) (Or.inl ⟨by rfl, ?_⟩) (by assumption) ?_
  focus ((intro w hSw; (try dsimp only at hSw); go_simp); all_goals (first | rfl | (simp; omega)))
  try simp only [Act.put, List.setIfInBounds_toArray, List.set_cons_zero, List.set_cons_succ]
  refine wpAnyH_take (i := 3) (oi := { dst := some 8, op := Op.move (Operand.tmp 7), type := 4, pos := "sums.go:46", after := #[{ on := 2, ground := Ground.data }], guard := none }) (v := ?_) rfl (by kernel_rfl) (by kernel_rfl) (by kernel_rfl) (fun _ _ _ h => h) (Or.inl ⟨by rfl, ?_⟩) (by assumption) ?_
  rotate_left
  focus ((intro w hSw; (try dsimp only at hSw); go_simp); (try with_reducible rfl))
  try simp only [Act.put, List.setIfInBounds_toArray, List.set_cons_zero, List.set_cons_succ]
  refine wpAnyH_take (i := 4) (oi := { dst := some 9, op := Op.move (Operand.tmp 0), type := 32, pos := "sums.go:46", after := #[{ on := 3, ground := Ground.guard }], guard := some (3, false) }) (v := ?_) rfl (by kernel_rfl) (by kernel_rfl) (by kernel_rfl) (fun _ _ _ h => h) (Or.inl ⟨by rfl, ?_⟩) (by assumption) ?_
  rotate_left
  focus ((intro w hSw; (try dsimp only at hSw); go_simp); (try with_reducible rfl))
  try simp only [Act.put, List.setIfInBounds_toArray, List.set_cons_zero, List.set_cons_succ]
  refine wpAnyH_take (i := 5) (oi := { dst := some 10, op := Op.call { callee := Callee.builtin Builtin.len, args := #[Operand.tmp 9], argTypes := #[32] }, type := 3, pos := "sums.go:46", after := #[{ on := 4, ground := Ground.data }, { on := 3, ground := Ground.guard }], guard := some (3, false) }) (v := ?_) rfl (by kernel_rfl) (by kernel_rfl) (by kernel_rfl) (fun _ _ _ h => h) (Or.inl ⟨by rfl, ?_⟩) (by assumption) ?_
  rotate_left
  focus ((intro w hSw; (try dsimp only at hSw); go_simp); (try with_reducible rfl))
  try simp only [Act.put, List.setIfInBounds_toArray, List.set_cons_zero, List.set_cons_succ]
  refine wpAnyH_take (i := 6) (oi := { dst := some 11, op := Op.binOp BinOp.gtr 3 (Operand.tmp 10) (Operand.const (Value.int IntKind.i64 0)) 3, type := 4, pos := "sums.go:46", after := #[{ on := 5, ground := Ground.data }, { on := 3, ground := Ground.guard }], guard := some (3, false) }) (v := .bool true) rfl (by kernel_rfl) (by kernel_rfl) (by kernel_rfl) (fun _ _ _ h => h) (Or.inl ⟨by rfl, ?_⟩) (by assumption) ?_
  focus ((intro w hSw; (try dsimp only at hSw); go_simp); all_goals (first | rfl | (simp; omega)))
  try simp only [Act.put, List.setIfInBounds_toArray, List.set_cons_zero, List.set_cons_succ]
  refine wpAnyH_take (i := 7) (oi := { dst := some 12, op := Op.move (Operand.tmp 11), type := 4, pos := "sums.go:46", after := #[{ on := 6, ground := Ground.data }, { on := 3, ground := Ground.chain }, { on := 3, ground := Ground.guard }], guard := some (3, false) }) (v := ?_) rfl (by kernel_rfl) (by kernel_rfl) (by kernel_rfl) (fun _ _ _ h => h) (Or.inl ⟨by rfl, ?_⟩) (by assumption) ?_
  rotate_left
  focus ((intro w hSw; (try dsimp only at hSw); go_simp); (try with_reducible rfl))
  try simp only [Act.put, List.setIfInBounds_toArray, List.set_cons_zero, List.set_cons_succ]
  refine wpAnyH_take (i := 8) (oi := { dst := some 13, op := Op.move (Operand.tmp 0), type := 32, pos := "sums.go:46", after := #[{ on := 7, ground := Ground.guard }], guard := some (7, true) }) (v := ?_) rfl (by kernel_rfl) (by kernel_rfl) (by kernel_rfl) (fun _ _ _ h => h) (Or.inl ⟨by rfl, ?_⟩) (by assumption) ?_
  rotate_left
  focus ((intro w hSw; (try dsimp only at hSw); go_simp); (try with_reducible rfl))
  try simp only [Act.put, List.setIfInBounds_toArray, List.set_cons_zero, List.set_cons_succ]
  refine wpAnyH_take (i := 9) (oi := { dst := some 14, op := Op.indexAddr 32 (Operand.tmp 13) (Operand.const (Value.int IntKind.i64 0)), type := 0, pos := "sums.go:46", after := #[{ on := 8, ground := Ground.data }, { on := 7, ground := Ground.guard }], guard := some (7, true) }) (v := ?_) rfl (by kernel_rfl) (by kernel_rfl) (by kernel_rfl) (fun _ _ _ h => h) (Or.inl ⟨by rfl, ?_⟩) (by assumption) ?_
  rotate_left
  focus ((intro w hSw; (try dsimp only at hSw); go_simp); (try with_reducible rfl))
  try simp only [Act.put, List.setIfInBounds_toArray, List.set_cons_zero, List.set_cons_succ]
  refine wpAnyH_take (i := 10) (oi := { dst := some 15, op := Op.fieldAddr 35 (Operand.tmp 14) 0, type := 0, pos := "sums.go:46", after := #[{ on := 9, ground := Ground.data }, { on := 7, ground := Ground.guard }], guard := some (7, true) }) (v := ?_) rfl (by kernel_rfl) (by kernel_rfl) (by kernel_rfl) (fun _ _ _ h => h) (Or.inl ⟨by rfl, ?_⟩) (by assumption) ?_
  rotate_left
  focus ((intro w hSw; (try dsimp only at hSw); go_simp); (try with_reducible rfl))
  try simp only [Act.put, List.setIfInBounds_toArray, List.set_cons_zero, List.set_cons_succ]
  refine wpAnyH_take (i := 11) (oi := { dst := some 16, op := Op.load 9 (Operand.tmp 15), type := 9, pos := "sums.go:46", after := #[{ on := 10, ground := Ground.data }, { on := 7, ground := Ground.guard }], guard := some (7, true) }) (v := ?_) rfl (by kernel_rfl) (by kernel_rfl) (by kernel_rfl) (fun _ _ _ h => h) (Or.inl ⟨by rfl, ?_⟩) (by assumption) ?_
  rotate_left
  focus ((intro w hSw; (try dsimp only at hSw); go_simp); (try with_reducible rfl))
  try simp only [Act.put, List.setIfInBounds_toArray, List.set_cons_zero, List.set_cons_succ]
  refine wpAnyH_take (i := 12) (oi := { dst := some 17, op := Op.move (Operand.tmp 1), type := 32, pos := "sums.go:46", after := #[{ on := 7, ground := Ground.guard }], guard := some (7, true) }) (v := ?_) rfl (by kernel_rfl) (by kernel_rfl) (by kernel_rfl) (fun _ _ _ h => h) (Or.inl ⟨by rfl, ?_⟩) (by assumption) ?_
  rotate_left
  focus ((intro w hSw; (try dsimp only at hSw); go_simp); (try with_reducible rfl))
  try simp only [Act.put, List.setIfInBounds_toArray, List.set_cons_zero, List.set_cons_succ]
  refine wpAnyH_take (i := 13) (oi := { dst := some 18, op := Op.indexAddr 32 (Operand.tmp 17) (Operand.const (Value.int IntKind.i64 0)), type := 0, pos := "sums.go:46", after := #[{ on := 12, ground := Ground.data }, { on := 7, ground := Ground.guard }], guard := some (7, true) }) (v := ?_) rfl (by kernel_rfl) (by kernel_rfl) (by kernel_rfl) (fun _ _ _ h => h) (Or.inl ⟨by rfl, ?_⟩) (by assumption) ?_
  rotate_left
  focus ((intro w hSw; (try dsimp only at hSw); go_simp); (try with_reducible rfl))
  try simp only [Act.put, List.setIfInBounds_toArray, List.set_cons_zero, List.set_cons_succ]
  refine wpAnyH_take (i := 14) (oi := { dst := some 19, op := Op.fieldAddr 35 (Operand.tmp 18) 0, type := 0, pos := "sums.go:46", after := #[{ on := 13, ground := Ground.data }, { on := 7, ground := Ground.guard }], guard := some (7, true) }) (v := ?_) rfl (by kernel_rfl) (by kernel_rfl) (by kernel_rfl) (fun _ _ _ h => h) (Or.inl ⟨by rfl, ?_⟩) (by assumption) ?_
  rotate_left
  focus ((intro w hSw; (try dsimp only at hSw); go_simp); (try with_reducible rfl))
  try simp only [Act.put, List.setIfInBounds_toArray, List.set_cons_zero, List.set_cons_succ]
  refine wpAnyH_take (i := 15) (oi := { dst := some 20, op := Op.load 9 (Operand.tmp 19), type := 9, pos := "sums.go:46", after := #[{ on := 14, ground := Ground.data }, { on := 7, ground := Ground.guard }], guard := some (7, true) }) (v := ?_) rfl (by kernel_rfl) (by kernel_rfl) (by kernel_rfl) (fun _ _ _ h => h) (Or.inl ⟨by rfl, ?_⟩) (by assumption) ?_
  rotate_left
  focus ((intro w hSw; (try dsimp only at hSw); go_simp); (try with_reducible rfl))
  try simp only [Act.put, List.setIfInBounds_toArray, List.set_cons_zero, List.set_cons_succ]
  refine wpAnyH_take (i := 16) (oi := { dst := some 21, op := Op.binOp BinOp.lss 9 (Operand.tmp 16) (Operand.tmp 20) 9, type := 4, pos := "sums.go:46", after := #[{ on := 11, ground := Ground.data }, { on := 15, ground := Ground.data }, { on := 7, ground := Ground.guard }], guard := some (7, true) }) (v := .bool false) rfl (by kernel_rfl) (by kernel_rfl) (by kernel_rfl) (fun _ _ _ h => h) (Or.inl ⟨by rfl, ?_⟩) (by assumption) ?_
  focus ((intro w hSw; (try dsimp only at hSw); go_simp); all_goals (first | rfl | (rw [hbl]; rfl) | (rw [hbl]) | (simp [hbl])))
  try simp only [Act.put, List.setIfInBounds_toArray, List.set_cons_zero, List.set_cons_succ]
  refine wpAnyH_take (i := 17) (oi := { dst := some 22, op := Op.pick (Operand.tmp 12) (Operand.tmp 21) (Operand.const (Value.bool false)), type := 4, pos := "sums.go:46", after := #[{ on := 7, ground := Ground.data }, { on := 16, ground := Ground.data }, { on := 3, ground := Ground.guard }], guard := some (3, false) }) (v := ?_) rfl (by kernel_rfl) (by kernel_rfl) (by kernel_rfl) (fun _ _ _ h => h) (Or.inl ⟨by rfl, ?_⟩) (by assumption) ?_
  rotate_left
  focus ((intro w hSw; (try dsimp only at hSw); go_simp); (try with_reducible rfl))
  try simp only [Act.put, List.setIfInBounds_toArray, List.set_cons_zero, List.set_cons_succ]
  refine wpAnyH_take (i := 18) (oi := { dst := some 23, op := Op.pick (Operand.tmp 8) (Operand.const (Value.bool true)) (Operand.tmp 22), type := 4, pos := "sums.go:46", after := #[{ on := 3, ground := Ground.data }, { on := 17, ground := Ground.data }], guard := none }) (v := ?_) rfl (by kernel_rfl) (by kernel_rfl) (by kernel_rfl) (fun _ _ _ h => h) (Or.inl ⟨by rfl, ?_⟩) (by assumption) ?_
  rotate_left
  focus ((intro w hSw; (try dsimp only at hSw); go_simp); (try with_reducible rfl))
  try simp only [Act.put, List.setIfInBounds_toArray, List.set_cons_zero, List.set_cons_succ]
  refine wpAnyH_done (by kernel_rfl) ?_ _
  clear hHeld
  go_wp2_with fail
  go_ret
  exact ⟨rfl, 1, rfl⟩

end Go.Proofs.YtahnkmkmoalbhaaGreatDoor

/- Layer 5, the program: what each round of currencies yields; its closure. -/
namespace Go.Proofs.YtahnkmkmoalbhaaGreatDoor
open Go.RowKit Go.Shelf

attribute [local go_sem] Oper.semAt_some

/-- one round: the code, the amounts in both, and what has been taken of both behind it -/
inductive MStep (N M : Nat) (u v s t : Nat → ByteArray) (i j : Nat) : ByteArray → ByteArray → ByteArray → Nat → Nat → Prop
  | left (hi : i < N) (h : M ≤ j ∨ (j < M ∧ bl (u i) (s j) = true)) : MStep N M u v s t i j (u i) (v i) ⟨#[]⟩ (i + 1) j
  | right (hj : j < M) (h : N ≤ i ∨ (i < N ∧ bl (u i) (s j) = false ∧ u i ≠ s j)) : MStep N M u v s t i j (s j) ⟨#[]⟩ (t j) i (j + 1)
  | both (hi : i < N) (hj : j < M) (h : u i = s j) : MStep N M u v s t i j (s j) (v i) (t j) (i + 1) (j + 1)
/-- what is left of a slice of n pairs behind i of them -/
structure LeftAt (xa : Option Addr) (n i : Nat) (ra : Option Addr) (ca : Nat) : Prop where
  cap : n - i ≤ ca
  at_ : i < n → ∃ b o, xa = some ⟨b, o, none⟩ ∧ ra = some ⟨b, o + i * 2, none⟩
theorem LeftAt.zero {w : World} {xa : Option Addr} {n ca : Nat} {u v : Nat → ByteArray} (h : Rf w xa n u v) (hc : n ≤ ca) : LeftAt xa n 0 xa ca :=
  ⟨by omega, fun h0 => by obtain ⟨b, o, e, _⟩ := h.sl (by omega); exact ⟨b, o, e, by rw [e]; rfl⟩⟩
theorem LeftAt.cells {w : World} {xa ra : Option Addr} {n i ca : Nat} {u v : Nat → ByteArray} (h : LeftAt xa n i ra ca) (hi : i < n) (hr : Rf w xa n u v) :
    ∃ b o, ra = some ⟨b, o, none⟩ ∧ w.cell? ⟨b, o, none⟩ = some (.string (u i)) ∧ w.cell? ⟨b, o + 1, none⟩ = some (.string (v i)) := by
  obtain ⟨b, o, e, e2⟩ := h.at_ hi
  obtain ⟨b', o', e', _, h1, h2⟩ := Rf.at hr hi
  obtain ⟨rfl, rfl⟩ : b = b' ∧ o = o' := by rw [e] at e'; injection e' with e'; injection e' with e1 e2; exact ⟨e1, e2⟩
  exact ⟨b, o + i * 2, e2, h1, h2⟩
/-- the calls of one round, in whatever world both slices lie -/
structure CurCalls (N M : Nat) (xa ya : Option Addr) (u v s t : Nat → ByteArray) (ra : Option Addr) (la ca : Nat) (rb : Option Addr) (lb cb : Nat) (c z1 z2 : ByteArray) (ra' : Option Addr) (la' ca' : Nat) (rb' : Option Addr) (lb' cb' : Nat) : Prop where
  low : ∀ W, Rf W xa N u v → Rf W ya M s t → Calls Tryz.prog 111 #[.slice ra la ca, .slice rb lb cb] W fun e w' => e = .returned (.string c) ∧ ∃ q, w' = W.drewN q
  ta : ∀ W, Rf W xa N u v → Calls Tryz.prog 112 #[.slice ra la ca, .string c] W fun e w' => e = .returned (.tuple #[.string z1, .slice ra' la' ca']) ∧ ∃ q, w' = W.drewN q
  tb : ∀ W, Rf W ya M s t → Calls Tryz.prog 112 #[.slice rb lb cb, .string c] W fun e w' => e = .returned (.tuple #[.string z2, .slice rb' lb' cb']) ∧ ∃ q, w' = W.drewN q
theorem take_on {xa ra : Option Addr} {n i ca : Nat} {u v : Nat → ByteArray} (h : LeftAt xa n i ra ca) (hi : i < n) :
    ∃ ra' ca', LeftAt xa n (i + 1) ra' ca' ∧ ∀ W, Rf W xa n u v → Calls Tryz.prog 112 #[.slice ra (n - i) ca, .string (u i)] W fun e w' => e = .returned (.tuple #[.string (v i), .slice ra' (n - (i + 1)) ca']) ∧ ∃ q, w' = W.drewN q := by
  obtain ⟨b, o, e, e2⟩ := h.at_ hi
  have hc := h.cap
  by_cases hm : ca = 1
  · refine ⟨ra, ca - 1, ⟨by omega, fun h2 => by omega⟩, fun W hW => ?_⟩
    obtain ⟨b', o', er, h1, h2⟩ := h.cells hi hW
    rw [er]
    exact pTake_last W b' o' (n - i) ca (u i) (v i) (by omega) hc h1 h2 hm
  · refine ⟨some ⟨b, o + (i + 1) * 2, none⟩, ca - 1, ⟨by omega, fun _ => ⟨b, o, e, rfl⟩⟩, fun W hW => ?_⟩
    obtain ⟨b', o', er, h1, h2⟩ := h.cells hi hW
    rw [er] at e2
    injection e2 with e2
    injection e2 with e3 e4
    subst e3 e4
    rw [er, show o + (i + 1) * 2 = o + i * 2 + 2 by omega]
    exact pTake_more W b' (o + i * 2) (n - i) ca (u i) (v i) (by omega) hc h1 h2 hm
theorem take_off {xa ra : Option Addr} {n i ca : Nat} {u v : Nat → ByteArray} (h : LeftAt xa n i ra ca) {c : ByteArray} (hi : n ≤ i ∨ (i < n ∧ u i ≠ c)) (W : World) (hW : Rf W xa n u v) :
    Calls Tryz.prog 112 #[.slice ra (n - i) ca, .string c] W fun e w' => e = .returned (.tuple #[.string ⟨#[]⟩, .slice ra (n - i) ca]) ∧ ∃ q, w' = W.drewN q := by
  rcases hi with hi | ⟨hi, hne⟩
  · rw [show n - i = 0 by omega]
    exact pTake_none W ra ca c
  · obtain ⟨b, o, er, h1, _⟩ := h.cells hi hW
    rw [er]
    exact pTake_no W b o (n - i) ca c (u i) (by omega) h1 hne
theorem cur_calls {N M i j ca cb : Nat} {xa ya ra rb : Option Addr} {u v s t : Nat → ByteArray} (hL : LeftAt xa N i ra ca) (hR : LeftAt ya M j rb cb) (h : i < N ∨ j < M) (hi : i ≤ N) (hj : j ≤ M) :
    ∃ c z1 z2 i' j' ra' ca' rb' cb', MStep N M u v s t i j c z1 z2 i' j' ∧ LeftAt xa N i' ra' ca' ∧ LeftAt ya M j' rb' cb' ∧ i' ≤ N ∧ j' ≤ M ∧ (N - i') + (M - j') < (N - i) + (M - j) ∧
      CurCalls N M xa ya u v s t ra (N - i) ca rb (M - j) cb c z1 z2 ra' (N - i') ca' rb' (M - j') cb' := by
  rcases mway N M u s i j h with ⟨hi2, hw⟩ | ⟨hj2, hw⟩ | ⟨hi2, hj2, he⟩
  · obtain ⟨ra', ca', hl, ht⟩ := take_on (u := u) (v := v) hL hi2
    refine ⟨_, _, _, _, _, ra', ca', rb, cb, .left hi2 hw, hl, hR, hi2, hj, by omega, ⟨fun W h1 h2 => ?_, ht, fun W h2 => take_off hR ?_ W h2⟩⟩
    · obtain ⟨b, o, er, e1, _⟩ := hL.cells hi2 h1
      rw [er]
      rcases hw with g | ⟨g, hb⟩
      · rw [show M - j = 0 by omega]
        exact pLow_noB W b o (N - i) ca rb cb (u i) (by omega) e1
      · obtain ⟨c, p, er2, f1, _⟩ := hR.cells g h2
        rw [er2]
        exact pLow_lt W b o (N - i) ca c p (M - j) cb (u i) (s j) (by omega) (by omega) e1 f1 hb
    · rcases hw with g | ⟨g, hb⟩
      · exact Or.inl g
      · exact Or.inr ⟨g, (bl_ne hb).symm⟩
  · obtain ⟨rb', cb', hl, ht⟩ := take_on (u := s) (v := t) hR hj2
    refine ⟨_, _, _, _, _, ra, ca, rb', cb', .right hj2 hw, hL, hl, hi, hj2, by omega, ⟨fun W h1 h2 => ?_, fun W h1 => take_off hL ?_ W h1, ht⟩⟩
    · obtain ⟨c, p, er2, f1, _⟩ := hR.cells hj2 h2
      rw [er2]
      rcases hw with g | ⟨g, hb, _⟩
      · rw [show N - i = 0 by omega]
        exact pLow_noA W ra ca c p (M - j) cb (s j) (by omega) f1
      · obtain ⟨b, o, er, e1, _⟩ := hL.cells g h1
        rw [er]
        exact pLow_ge W b o (N - i) ca c p (M - j) cb (u i) (s j) (by omega) (by omega) e1 f1 hb
    · rcases hw with g | ⟨g, _, hne⟩
      · exact Or.inl g
      · exact Or.inr ⟨g, hne⟩
  · obtain ⟨ra', ca', hl, ht⟩ := take_on (u := u) (v := v) hL hi2
    obtain ⟨rb', cb', hl2, ht2⟩ := take_on (u := s) (v := t) hR hj2
    refine ⟨_, _, _, _, _, ra', ca', rb', cb', .both hi2 hj2 he, hl, hl2, hi2, hj2, by omega, ⟨fun W h1 h2 => ?_, fun W h1 => ?_, ht2⟩⟩
    · obtain ⟨b, o, er, e1, _⟩ := hL.cells hi2 h1
      obtain ⟨c, p, er2, f1, _⟩ := hR.cells hj2 h2
      rw [er, er2]
      exact pLow_ge W b o (N - i) ca c p (M - j) cb (u i) (s j) (by omega) (by omega) e1 f1 (by rw [he]; exact bl_irr _)
    · rw [← he]; exact ht W h1

def sliceLen : Value → Nat
  | .slice _ n _ => n
  | _ => 0
set_option maxRecDepth 100000 in
set_option maxHeartbeats 4000000 in
/-- the closure: each round is yielded -/
theorem cur1_in (n : Nat) (hn : 1 ≤ n) (l bA bB N M ca cb : Nat) (xa ya : Option Addr) (u v s t : Nat → ByteArray) (hca : N ≤ ca) (hcb : M ≤ cb) (J : Nat → Nat → World → Prop)
    (hJ : ∀ i j A A', J i j A → Below A.heap.size A A' → J i j A')
    (hJs : ∀ i j A, J i j A → Rf A xa N u v ∧ Rf A ya M s t)
    (hY : ∀ i j W1 c z1 z2 i' j', MStep N M u v s t i j c z1 z2 i' j' → J i j W1 → YieldAt Fence.wide (n - 1) Tryz.prog l #[.string c, .agg #[.string z1, .string z2]] W1 fun e W' =>
      e = .returned (.bool true) ∧ J i' j' W')
    (W : World) (hbA : W.cell? ⟨bA, 0, none⟩ = some (.slice xa N ca)) (hbB : W.cell? ⟨bB, 0, none⟩ = some (.slice ya M cb)) (h0 : J 0 0 W) :
    CallsIn Fence.wide n Tryz.prog 110 #[.func (.yield l) #[] #[], .pointer (some ⟨bA, 0, none⟩), .pointer (some ⟨bB, 0, none⟩)] W fun e W' => (∃ v, e = .returned v) ∧ J N M W' := by
  refine callsIn_of_wp Tryz.func110 rfl trivial ?_ rfl
  simp only [Tryz.ntmps110, List.size_toArray, List.length_cons, List.length_nil, Nat.reduceAdd, Nat.reduceSub, Array.replicate_succ, Array.replicate_zero, List.push_toArray, List.append_toArray, List.nil_append, List.cons_append]
  have HA0 := Lib.hid (LeftAt.zero (hJs 0 0 W h0).1 hca)
  have HB0 := Lib.hid (LeftAt.zero (hJs 0 0 W h0).2 hcb)
  have HJ0 := Lib.hid h0
  clear h0 hca hcb
  gi_wp2_with fail
  gi_quiet (fail)
  rename_i nq
  have HJ1 := Lib.hid (hJ 0 0 W (W.drewN nq) HJ0.out (below_drewN (Below.refl _ _) nq))
  clear HJ0 hbA hbB
  gi_wp2_with fail
  gi_loopw [4, 5] (fun av bv wr => ∃ i j ra rb ca' cb', i ≤ N ∧ j ≤ M ∧ av = .slice ra (N - i) ca' ∧ bv = .slice rb (M - j) cb' ∧ Hid (LeftAt xa N i ra ca') ∧ Hid (LeftAt ya M j rb cb') ∧ Hid (J i j wr)) (fun av bv _ => sliceLen av + sliceLen bv)
  case atStart => exact ⟨0, 0, xa, ya, ca, cb, Nat.zero_le _, Nat.zero_le _, rfl, rfl, HA0, HB0, HJ1⟩
  case round =>
    clear HA0 HB0 HJ1
    obtain ⟨i, j, ra, rb, ca', cb', hi, hj, rfl, rfl, HL, HR, HJJ⟩ := hrel
    by_cases hany : i < N ∨ j < M
    · obtain ⟨c, z1, z2, i', j', ra', ca2, rb', cb2, hst, hL', hR', hi', hj', hmu, hcc⟩ := cur_calls HL.out HR.out hany hi hj
      have HST := Lib.hid hst
      have HL2 := Lib.hid hL'
      have HR2 := Lib.hid hR'
      have hpos : 0 < N - i ∨ (N - i = 0 ∧ 0 < M - j) := by omega
      obtain ⟨la, hla⟩ : ∃ x, N - i = x := ⟨_, rfl⟩
      obtain ⟨lb, hlb⟩ : ∃ x, M - j = x := ⟨_, rfl⟩
      obtain ⟨la2, hla2⟩ : ∃ x, N - i' = x := ⟨_, rfl⟩
      obtain ⟨lb2, hlb2⟩ : ∃ x, M - j' = x := ⟨_, rfl⟩
      rw [hla, hlb, hla2, hlb2] at hcc
      rw [hla, hlb, hla2, hlb2] at hmu
      rw [hla, hlb] at hpos ⊢
      have HLA2 := Lib.hid hla2
      have HLB2 := Lib.hid hlb2
      have HLO := Lib.hid (fun W (h : J i j W) => hcc.low W (hJs i j W h).1 (hJs i j W h).2)
      have HTA := Lib.hid (fun W (h : J i j W) => hcc.ta W (hJs i j W h).1)
      have HTB := Lib.hid (fun W (h : J i j W) => hcc.tb W (hJs i j W h).2)
      clear hcc hst hL' hR' hany hla hlb hla2 hlb2
      rcases hpos with hp | ⟨rfl, hp⟩
      · have e1 : (0 : Int) < (la : Int) := by omega
        gi_wp2_with fail
        refine ⟨trivial, (callsIn_wide.2 (HLO.out _ HJJ.out)).mono ?_⟩
        rintro e _ ⟨rfl, q1, rfl⟩
        obtain ⟨X1, hX1⟩ : ∃ X, X = (wr.drewN q1).alloc (.cells #[.string ⟨#[]⟩, .string ⟨#[]⟩] 101) := ⟨_, rfl⟩
        obtain ⟨B7, hB7⟩ : ∃ x, wr.heap.size = x := ⟨_, rfl⟩
        have hP1 : PairAt X1 B7 101 ⟨#[]⟩ ⟨#[]⟩ := by rw [hX1, ← hB7]; exact PairAt.made (wr.drewN q1) _ _ _
        have hb1 : Below wr.heap.size wr X1 := by rw [hX1]; exact (below_drewN (Below.refl _ _) q1).alloc (Nat.le_refl _) _
        have HJ1 := Lib.hid (hJ i j wr X1 HJJ.out hb1)
        gi_upto_region 4 with fail
        rw [← hX1]
        try rw [hB7]
        clear hX1
        gi_wp2_with fail
        refine ⟨trivial, (callsIn_wide.2 (HTA.out _ HJ1.out)).mono ?_⟩
        rintro e _ ⟨rfl, q2, rfl⟩
        have hP2 : PairAt (X1.drewN q2) B7 101 ⟨#[]⟩ ⟨#[]⟩ := hP1
        obtain ⟨k0, k1, k2, k3⟩ := hP2.cells
        obtain ⟨X3, hX3⟩ : ∃ X, X = (X1.drewN q2).setCell ⟨B7, 0, none⟩ (.string z1) := ⟨_, rfl⟩
        have hP3 : PairAt X3 B7 101 z1 ⟨#[]⟩ := by rw [hX3]; exact hP2.set0 z1
        have hb3 : Below wr.heap.size wr X3 := by rw [hX3]; exact (below_drewN hb1 q2).setCell (p := ⟨B7, 0, none⟩) (show wr.heap.size ≤ B7 by omega) _
        have HJ3 := Lib.hid (hJ i j wr X3 HJJ.out hb3)
        gi_upto_region 5 with fail
        rw [← hX3]
        clear hX3 k0 k1 k2 k3 hP1 hP2 hb1 HJ1
        gi_wp2_with fail
        refine ⟨trivial, (callsIn_wide.2 (HTB.out _ HJ3.out)).mono ?_⟩
        rintro e _ ⟨rfl, q3, rfl⟩
        have hP4 : PairAt (X3.drewN q3) B7 101 z1 ⟨#[]⟩ := hP3
        obtain ⟨k0, k1, k2, k3⟩ := hP4.cells
        obtain ⟨X5, hX5⟩ : ∃ X, X = (X3.drewN q3).setCell ⟨B7, 1, none⟩ (.string z2) := ⟨_, rfl⟩
        have hP5 : PairAt X5 B7 101 z1 z2 := by rw [hX5]; exact hP4.set1 z2
        have hb5 : Below wr.heap.size wr X5 := by rw [hX5]; exact (below_drewN hb3 q3).setCell (p := ⟨B7, 1, none⟩) (show wr.heap.size ≤ B7 by omega) _
        have HJ5 := Lib.hid (hJ i j wr X5 HJJ.out hb5)
        gi_upto_region 6 with fail
        rw [← hX5]
        clear hX5 k0 k1 k2 k3 hP3 hP4 hb3 HJ3
        obtain ⟨fn, tmps, assign, body, hy, hRR⟩ := hY i j X5 c z1 z2 i' j' HST.out HJ5.out
        obtain ⟨k0, k1, _, _⟩ := hP5.cells
        gi_wp2_with fail
        refine hRR.mono ?_
        rintro e w2 ⟨rfl, hj2⟩
        have HJ2 := Lib.hid hj2
        clear hj2 hRR hy k0 k1 hP5 HJ5
        gi_wp2_with fail
        go_roundw
        case rel => exact ⟨i', j', ra', rb', ca2, cb2, hi', hj', by rw [HLA2.out], by rw [HLB2.out], HL2, HR2, HJ2⟩
        case measure => simp only [sliceLen]; omega
      · have e1 : (0 : Int) < (lb : Int) := by omega
        gi_wp2_with fail
        refine ⟨trivial, (callsIn_wide.2 (HLO.out _ HJJ.out)).mono ?_⟩
        rintro e _ ⟨rfl, q1, rfl⟩
        obtain ⟨X1, hX1⟩ : ∃ X, X = (wr.drewN q1).alloc (.cells #[.string ⟨#[]⟩, .string ⟨#[]⟩] 101) := ⟨_, rfl⟩
        obtain ⟨B7, hB7⟩ : ∃ x, wr.heap.size = x := ⟨_, rfl⟩
        have hP1 : PairAt X1 B7 101 ⟨#[]⟩ ⟨#[]⟩ := by rw [hX1, ← hB7]; exact PairAt.made (wr.drewN q1) _ _ _
        have hb1 : Below wr.heap.size wr X1 := by rw [hX1]; exact (below_drewN (Below.refl _ _) q1).alloc (Nat.le_refl _) _
        have HJ1 := Lib.hid (hJ i j wr X1 HJJ.out hb1)
        gi_upto_region 4 with fail
        rw [← hX1]
        try rw [hB7]
        clear hX1
        gi_wp2_with fail
        refine ⟨trivial, (callsIn_wide.2 (HTA.out _ HJ1.out)).mono ?_⟩
        rintro e _ ⟨rfl, q2, rfl⟩
        have hP2 : PairAt (X1.drewN q2) B7 101 ⟨#[]⟩ ⟨#[]⟩ := hP1
        obtain ⟨k0, k1, k2, k3⟩ := hP2.cells
        obtain ⟨X3, hX3⟩ : ∃ X, X = (X1.drewN q2).setCell ⟨B7, 0, none⟩ (.string z1) := ⟨_, rfl⟩
        have hP3 : PairAt X3 B7 101 z1 ⟨#[]⟩ := by rw [hX3]; exact hP2.set0 z1
        have hb3 : Below wr.heap.size wr X3 := by rw [hX3]; exact (below_drewN hb1 q2).setCell (p := ⟨B7, 0, none⟩) (show wr.heap.size ≤ B7 by omega) _
        have HJ3 := Lib.hid (hJ i j wr X3 HJJ.out hb3)
        gi_upto_region 5 with fail
        rw [← hX3]
        clear hX3 k0 k1 k2 k3 hP1 hP2 hb1 HJ1
        gi_wp2_with fail
        refine ⟨trivial, (callsIn_wide.2 (HTB.out _ HJ3.out)).mono ?_⟩
        rintro e _ ⟨rfl, q3, rfl⟩
        have hP4 : PairAt (X3.drewN q3) B7 101 z1 ⟨#[]⟩ := hP3
        obtain ⟨k0, k1, k2, k3⟩ := hP4.cells
        obtain ⟨X5, hX5⟩ : ∃ X, X = (X3.drewN q3).setCell ⟨B7, 1, none⟩ (.string z2) := ⟨_, rfl⟩
        have hP5 : PairAt X5 B7 101 z1 z2 := by rw [hX5]; exact hP4.set1 z2
        have hb5 : Below wr.heap.size wr X5 := by rw [hX5]; exact (below_drewN hb3 q3).setCell (p := ⟨B7, 1, none⟩) (show wr.heap.size ≤ B7 by omega) _
        have HJ5 := Lib.hid (hJ i j wr X5 HJJ.out hb5)
        gi_upto_region 6 with fail
        rw [← hX5]
        clear hX5 k0 k1 k2 k3 hP3 hP4 hb3 HJ3
        obtain ⟨fn, tmps, assign, body, hy, hRR⟩ := hY i j X5 c z1 z2 i' j' HST.out HJ5.out
        obtain ⟨k0, k1, _, _⟩ := hP5.cells
        gi_wp2_with fail
        refine hRR.mono ?_
        rintro e w2 ⟨rfl, hj2⟩
        have HJ2 := Lib.hid hj2
        clear hj2 hRR hy k0 k1 hP5 HJ5
        gi_wp2_with fail
        go_roundw
        case rel => exact ⟨i', j', ra', rb', ca2, cb2, hi', hj', by rw [HLA2.out], by rw [HLB2.out], HL2, HR2, HJ2⟩
        case measure => simp only [sliceLen]; omega
    · obtain rfl : i = N := by omega
      obtain rfl : j = M := by omega
      rw [show i - i = 0 by omega, show j - j = 0 by omega]
      gi_wp2_with fail
      go_end0
      exact ⟨⟨_, rfl⟩, HJJ.out⟩

end Go.Proofs.YtahnkmkmoalbhaaGreatDoor
