/- Layer 5: Clone, Delete, MoneyFound. -/
import Derived.Test.YtahnkmkmoalbhaaGreatDoorZAA
import Derived.Test.YtahnkmkmoalbhaaGreatDoorZAB
import Derived.Test.YtahnkmkmoalbhaaGreatDoorZAC
import Derived.Test.YtahnkmkmoalbhaaGreatDoorZAD
import Derived.Test.YtahnkmkmoalbhaaGreatDoorZAE
import Derived.Test.YtahnkmkmoalbhaaGreatDoorZAF
import Derived.Test.YtahnkmkmoalbhaaGreatDoorZAG
import Derived.Test.YtahnkmkmoalbhaaGreatDoorZAH
import Derived.Test.YtahnkmkmoalbhaaGreatDoorZAI
import Derived.Test.YtahnkmkmoalbhaaGreatDoorZAJ
import Derived.Test.YtahnkmkmoalbhaaGreatDoorZAK
import Derived.Test.YtahnkmkmoalbhaaGreatDoorZAL
import Derived.Test.YtahnkmkmoalbhaaGreatDoorZAM
import Derived.Test.YtahnkmkmoalbhaaGreatDoorZAN
import Derived.Test.YtahnkmkmoalbhaaGreatDoorZAO
import Derived.Test.YtahnkmkmoalbhaaGreatDoorZAP
import Derived.Laws.CopyOwn
import Derived.Laws.CopyRow
import Derived.Laws.StructEq
namespace Go.Proofs.YtahnkmkmoalbhaaGreatDoor
open Go.RowKit

theorem info_Cur : (Tryz.prog.info? 26).map (fun i => (i.zero, i.size, i.bytes)) = some (some (.agg #[.string ⟨#[]⟩, .int .i64 0]), 2, 24) := by kernel_rfl
/-- the cells of a table -/
def curC' (c : Nat → ByteArray) (p : Nat → Int) (i : Nat) : Value := if i % 2 = 0 then .string (c (i / 2)) else .int .i64 (p (i / 2))
theorem curC'_one (c : Nat → ByteArray) (p : Nat → Int) (i : Nat) : (curC' c p i).oneCell' = true := by unfold curC'; split <;> rfl
abbrev OwnT (w : World) (base : Nat) (v : Value) (n : Nat) (f : Nat → Value) : Prop := OwnC w base 26 2 v n f
set_option maxRecDepth 100000 in
/-- n cells-pairs more -/
theorem OwnT.addMany {w : World} {base : Nat} {v : Value} {k : Nat} {f g h : Nat → Value} (hO : OwnT w base v k f) (ad : Addr) (n cap : Nat) (hsrc : ∀ i, i < n * 2 → w.cell? (ad.add i) = some (g i)) (h1 : ∀ i, (g i).oneCell' = true) (ty : TypeId) (hs : k + n ≤ 1000000) (hb : base ≤ w.heap.size)
    (e1 : ∀ i, i < k * 2 → h i = f i) (e2 : ∀ i, i < n * 2 → h (k * 2 + i) = g i) :
    ∃ v' w', (Builtin.append_ #[22, 22] ty #[v, .slice (some ad) n cap]).run Tryz.prog w = .ok v' w' ∧ OwnT w' base v' (k + n) h ∧ Below base w w' ∧ w.grownBy w' v.ownBlock := by
  obtain ⟨i0, hi, hz0, hz1, hz2⟩ := info_parts info_Cur
  obtain ⟨v', w', r1, r2, r3, _⟩ := run_append_own (P := Tryz.prog) w base 22 ty 26 i0 (.agg #[.string ⟨#[]⟩, .int .i64 0]) 2 24 Tryz.underlying22 hi hz0 hz1 hz2 rfl (by decide) v k _ hO ad n cap ((List.range (n * 2)).map g) (by simp)
    (fun j u hj => by
      rw [List.getElem?_map] at hj
      obtain ⟨x, hx1, rfl⟩ := Option.map_eq_some_iff.1 hj
      obtain ⟨hx2, hx3⟩ := List.getElem?_eq_some_iff.1 hx1
      simp at hx3
      subst hx3
      exact hsrc _ (by simpa using hx2))
    (fun u hu => by obtain ⟨x, _, rfl⟩ := List.mem_map.1 hu; exact h1 x) (by unfold maxLen; omega) (by omega) hb
  refine ⟨v', w', r1, ?_, (Below.refl base w).grown r3 hb (fun j hj => (World.ownsRow.lt hO j hj).1), r3⟩
  unfold OwnT OwnC
  have : (List.range ((k + n) * 2)).map h = (List.range (k * 2)).map f ++ (List.range (n * 2)).map g := by
    rw [Nat.add_mul, List.range_add, List.map_append, List.map_map]
    congr 1
    · exact List.map_congr_left fun i hi => e1 i (List.mem_range.1 hi)
    · exact List.map_congr_left fun i hi => e2 i (List.mem_range.1 hi)
  rw [this]
  exact r2
theorem op_addCur {w w' : World} {o : Oper} {a : Act} {K : Act → World → Prop} {Q : Exit → Act → World → Prop} {v v' y : Value} (sl x : Operand)
    (ho : o.op = .call { callee := .builtin .append, args := #[sl, x], argTypes := #[22, 22] }) (hs : a.eval sl = v) (hx : a.eval x = y)
    (hr : (Builtin.append_ #[22, 22] o.type #[v, y]).run Tryz.prog w = .ok v' w') (hK : K (a.put o.dst v') w') : Oper.wp Tryz.prog o a w K Q := by
  unfold Oper.wp execOp
  simp only [ho, resolve, invoke, builtin, Sem.run_bind, Sem.run_pure, Result.andThen_ok, List.map_toArray, List.map_cons, List.map_nil, hs, hx, hr]
  exact hK
theorem wp_addCurs {w : World} {ops : Array Oper} {rest : List Oper} {o : Oper} {a : Act} {Q : Exit → Act → World → Prop} (hgd : o.guard = none) (sl x : Operand)
    (ho : o.op = .call { callee := .builtin .append, args := #[sl, x], argTypes := #[22, 22] })
    (v y v' : Value) (w' : World) (hs : a.eval sl = v) (hx : a.eval x = y) (hr : (Builtin.append_ #[22, 22] o.type #[v, y]).run Tryz.prog w = .ok v' w')
    (hK : wpList Tryz.prog ops Q rest (a.put o.dst v') w') : wpList Tryz.prog ops Q (o :: rest) a w := by
  refine wpList_plain hgd fun K hK' => ?_
  exact op_addCur sl x ho hs hx hr (hK' _ _ hK)

set_option maxRecDepth 100000 in
set_option maxHeartbeats 4000000 in
theorem pClone (w : World) (b o n cap : Nat) (c : Nat → ByteArray) (p : Nat → Int) (hr : Rt w (some ⟨b, o, none⟩) n c p) (hn : n ≤ 1000) (hn0 : 0 < n) :
    Calls Tryz.prog 44 #[.slice (some ⟨b, o, none⟩) n cap] w fun e w' => ∃ g cp, e = .returned (.slice (some ⟨g, 0, none⟩) n cp) ∧ OwnT w' w.heap.size (.slice (some ⟨g, 0, none⟩) n cp) n (curC' c p) ∧ Below w.heap.size w w' := by
  have hnil : (binOp .eql 22 (.slice (some ⟨b, o, none⟩) n cap) (.slice none 0 0)).run Tryz.prog w = .ok (.bool false) w := by
    first | rfl | kernel_rfl | simp [binOp, go_sem, Tryz.underlying22]
  obtain ⟨W1, hW1⟩ : ∃ V, V = w.alloc (.cells #[] 26) := ⟨_, rfl⟩
  have hb1 : Below w.heap.size w W1 := by rw [hW1]; exact (Below.refl _ _).alloc (Nat.le_refl _) _
  have hO : OwnT W1 w.heap.size (.slice (some ⟨w.heap.size, 0, none⟩) 0 0) 0 (fun _ => undef) := by
    refine ⟨rfl, Or.inr ⟨w.heap.size, 0, #[], rfl, Nat.le_refl _, by rw [hW1]; exact heap_alloc_new _ _, Nat.le_refl _, Nat.zero_le _, rfl, rfl⟩⟩
  have hr1 := hr.belowAt hb1 (Nat.le_refl _)
  obtain ⟨b', o', e', hlt, hcell⟩ := hr1.sl (by omega)
  obtain ⟨rfl, rfl⟩ : b = b' ∧ o = o' := by injection e' with e'; injection e' with e1 e2; exact ⟨e1, e2⟩
  obtain ⟨v', w', hrun, hO2, hB2, hG2⟩ := OwnT.addMany (h := curC' c p) (g := curC' c p) hO ⟨b, o, none⟩ n cap (fun i hi => by rw [show (⟨b, o, none⟩ : Addr).add i = ⟨b, o + i, none⟩ by unfold Addr.add; split <;> simp_all]; exact hcell i hi) (curC'_one c p) 22 (by omega) hb1.size (fun i hi => by omega) (fun i hi => by rw [Nat.zero_mul, Nat.zero_add])
  rw [Nat.zero_add] at hO2
  have hres : ∃ g cp, v' = .slice (some ⟨g, 0, none⟩) n cp := by
    rcases hO2.2 with ⟨_, h0⟩ | ⟨g, cp, cur, e, _⟩
    · omega
    · exact ⟨g, cp, e⟩
  obtain ⟨g, cp, rfl⟩ := hres
  have HO := Lib.hid hO2
  have HB := Lib.hid (hb1.trans hB2)
  have HRUN := Lib.hid hrun
  clear hr hr1 hcell hO hb1 hlt e' hO2 hB2 hG2 hrun
  go_enter Tryz.func44, Tryz.ntmps44
  go_wp2_with (at_builtin; rw [← hW1]; refine wp_addCurs rfl _ _ rfl _ _ _ _ rfl rfl HRUN.out ?_)
  go_ret
  exact ⟨g, cp, rfl, HO.out, HB.out⟩

end Go.Proofs.YtahnkmkmoalbhaaGreatDoor

namespace Go.Proofs.YtahnkmkmoalbhaaGreatDoor
open Go.RowKit

/-- f without element i -/
def delF {α : Type} (f : Nat → α) (i k : Nat) : α := if k < i then f k else f (k + 1)
theorem delC (c : Nat → ByteArray) (p : Nat → Int) (i k : Nat) : curC' (delF c i) (delF p i) k = if k < i * 2 then curC' c p k else curC' c p (k + 2) := by
  unfold curC' delF
  have e1 : (k + 2) / 2 = k / 2 + 1 := by omega
  have e2 : (k + 2) % 2 = k % 2 := by omega
  rw [e1, e2]
  by_cases h : k < i * 2
  · rw [if_pos h, if_pos (show k / 2 < i by omega), if_pos (show k / 2 < i by omega)]
  · rw [if_neg h, if_neg (show ¬ k / 2 < i by omega), if_neg (show ¬ k / 2 < i by omega)]
theorem run_clearCur (w : World) (g o q cc : Nat) (hq : q = 1) (cur : Array Value) (ty : TypeId) (hg : w.heap[g]? = some (.cells cur 26 (0, 0))) (hl : o + 2 ≤ cur.size) :
    (Builtin.clear_ #[22] ty #[.slice (some ⟨g, o, none⟩) q cc]).run Tryz.prog w = .ok (.tuple #[]) (w.setRow g (cur.toList.take o ++ ([Value.string ⟨#[]⟩, Value.int .i64 0] : List Value) ++ cur.toList.drop (o + 2)).toArray) := by
  subst hq
  have hst := run_storeCells_at Tryz.prog g o 26 [.string ⟨#[]⟩, .int .i64 0] 0 cur w hg (by simpa using hl) (by intro v hv; simp at hv; rcases hv with rfl | rfl <;> rfl)
  have hz : (Builtin.zeroCells (#[.string ⟨#[]⟩, .int .i64 0] : Array Value) 1).toList = ([.string ⟨#[]⟩, .int .i64 0] : List Value) := by simp [Builtin.zeroCells, List.range, List.range.loop]
  simp only [Nat.add_zero] at hst
  simp [Builtin.clear_, run_underlying Tryz.underlying22, Tryz.zeroValue26, Value.cells, hz, hst]

set_option maxRecDepth 100000 in
set_option maxHeartbeats 8000000 in
theorem pDelete (w : World) (base g n cp i : Nat) (c : Nat → ByteArray) (p : Nat → Int) (hO : OwnT w base (.slice (some ⟨g, 0, none⟩) n cp) n (curC' c p)) (hi : i < n) (hn : n ≤ 1000) :
    Calls Tryz.prog 43 #[.slice (some ⟨g, 0, none⟩) n cp, .int .i64 (i : Int), .int .i64 ((i + 1 : Nat) : Int)] w fun e w' => e = .returned (.slice (some ⟨g, 0, none⟩) (n - 1) cp) ∧ Rt w' (some ⟨g, 0, none⟩) (n - 1) (delF c i) (delF p i) ∧ Below base w w' := by
  have hown := hO
  obtain ⟨cur, hbg, hgc, hncp, hcpm, hcs, htk⟩ : ∃ cur, base ≤ g ∧ w.heap[g]? = some (.cells cur 26 (0, 0)) ∧ n ≤ cp ∧ cp ≤ maxLen ∧ cur.size = cp * 2 ∧ cur.toList.take (n * 2) = (List.range (n * 2)).map (curC' c p) := by
    rcases hO.2 with ⟨e, _⟩ | ⟨g', cap, cur, e, h0, h1, h2, h3, h4, h5⟩
    · cases e
    · injection e with e1 e2 e3
      injection e1 with e1
      injection e1 with e1
      subst e1
      subst e3
      exact ⟨cur, h0, h1, h2, h3, h4, h5⟩
  have hcell : ∀ k, k < n * 2 → cur.toList[k]? = some (curC' c p k) := fun k hk => by
    have : (cur.toList.take (n * 2))[k]? = some (curC' c p k) := by rw [htk, List.getElem?_map, List.getElem?_range hk]; rfl
    rwa [List.getElem?_take_of_lt hk] at this
  obtain ⟨m, rfl⟩ : ∃ m, n = i + 1 + m := ⟨n - (i + 1), by omega⟩
  obtain ⟨ca, rfl⟩ : ∃ ca, cp = i + 1 + m + ca := ⟨cp - (i + 1 + m), by omega⟩
  obtain ⟨news, hnews⟩ : ∃ l, l = (List.range (m * 2)).map (fun k => curC' c p ((i + 1) * 2 + k)) := ⟨_, rfl⟩
  have hnl : news.length = m * 2 := by rw [hnews]; simp
  have hone : ∀ u ∈ news, u.oneCell' = true := fun u hu => by rw [hnews] at hu; obtain ⟨x, _, rfl⟩ := List.mem_map.1 hu; exact curC'_one c p _
  obtain ⟨A, hA, hsrc⟩ : ∃ A : Addr, (if i + 1 + m + ca = i + 1 then (some (⟨g, 0, none⟩ : Addr)) else some ⟨g, (i + 1) * 2, none⟩) = some A ∧ Hid (∀ j u, news[j]? = some u → w.drew.cell? (A.add j) = some u) := by
    by_cases h : i + 1 + m + ca = i + 1
    · refine ⟨⟨g, 0, none⟩, by rw [if_pos h], fun j u hu => ?_⟩
      have h0 : news.length = 0 := by rw [hnl]; omega
      rw [List.length_eq_zero_iff.1 h0] at hu
      simp at hu
    · refine ⟨⟨g, (i + 1) * 2, none⟩, by rw [if_neg h], fun j u hu => ?_⟩
      have hj : j < m * 2 := by have := (List.getElem?_eq_some_iff.1 hu).1; rwa [hnl] at this
      rw [hnews, List.getElem?_map, List.getElem?_range hj] at hu
      injection hu with hu
      subst hu
      rw [show (⟨g, (i + 1) * 2, none⟩ : Addr).add j = ⟨g, (i + 1) * 2 + j, none⟩ by unfold Addr.add; split <;> simp_all]
      have := cell_of_row w.drew g ((i + 1) * 2 + j) cur _ _ hgc
      rw [this, ← Array.getElem?_toList]
      exact hcell _ (by omega)
  obtain ⟨i0, hi0, hz0, hz1, hz2⟩ := info_parts info_Cur
  obtain ⟨cur1, hcur1⟩ : ∃ l, l = (cur.toList.take (i * 2) ++ news ++ cur.toList.drop (i * 2 + news.length)).toArray := ⟨_, rfl⟩
  have hrun := run_append_room (P := Tryz.prog) w.drew 22 22 26 i0 Tryz.underlying22 hi0 g i (i + 1 + m + ca) cur hgc A m (i + 1 + m + ca - (i + 1)) news (by rw [hz1]; exact hnl) hsrc.out hone (by omega) (by rw [hz1, hnl, hcs]; omega)
  rw [hz1, ← hcur1] at hrun
  have hg1 : (w.drew.setRow g cur1).heap[g]? = some (.cells cur1 26 (0, 0)) := setRow_heap w.drew g cur cur1 _ _ hgc
  have hs1 : cur1.size = (i + 1 + m + ca) * 2 := by rw [hcur1]; simp [hcs, hnl]; omega
  obtain ⟨cur2, hcur2⟩ : ∃ l, l = (cur1.toList.take ((i + m) * 2) ++ ([Value.string ⟨#[]⟩, Value.int .i64 0] : List Value) ++ cur1.toList.drop ((i + m) * 2 + 2)).toArray := ⟨_, rfl⟩
  have hcl := run_clearCur (w.drew.setRow g cur1) g ((i + m) * 2) (i + 1 + m - (i + m)) (i + 1 + m + ca - (i + m)) (by omega) cur1 0 hg1 (by omega)
  rw [← hcur2] at hcl
  obtain ⟨W2, hW2⟩ : ∃ V, V = (w.drew.setRow g cur1).setRow g cur2 := ⟨_, rfl⟩
  rw [← hW2] at hcl
  have hg2 : W2.heap[g]? = some (.cells cur2 26 (0, 0)) := by rw [hW2]; exact setRow_heap _ g cur1 cur2 _ _ hg1
  have hB : Below base w W2 := by rw [hW2]; exact below_setRow (below_setRow (below_drew (Below.refl base w)) hbg cur1) hbg cur2
  have hread1 : ∀ k, k < (i + m) * 2 → cur1.toList[k]? = some (curC' (delF c i) (delF p i) k) := fun k hk => by
    rw [delC, hcur1, List.append_assoc, List.getElem?_append]
    have hl1 : (cur.toList.take (i * 2)).length = i * 2 := by simp [hcs]; omega
    rw [hl1]
    by_cases h : k < i * 2
    · rw [if_pos h, if_pos h, List.getElem?_take_of_lt h]; exact hcell k (by omega)
    · rw [if_neg h, if_neg h, List.getElem?_append, hnl, if_pos (by omega), hnews, List.getElem?_map, List.getElem?_range (by omega), Option.map_some, show (i + 1) * 2 + (k - i * 2) = k + 2 by omega]
  have hread : ∀ k, k < (i + m) * 2 → cur2.toList[k]? = some (curC' (delF c i) (delF p i) k) := fun k hk => by
    have hl1 : (cur1.toList.take ((i + m) * 2)).length = (i + m) * 2 := by simp [hs1]; omega
    rw [hcur2, List.append_assoc, List.getElem?_append, hl1, if_pos hk, List.getElem?_take_of_lt hk]
    exact hread1 k hk
  have hRT : Rt W2 (some ⟨g, 0, none⟩) (i + m) (delF c i) (delF p i) := by
    refine ⟨fun h => ⟨g, 0, rfl, ?_, fun k hk => ?_⟩⟩
    · exact (Array.getElem?_eq_some_iff.1 hg2).1
    · rw [Nat.zero_add, cell_of_row W2 g k cur2 _ _ hg2, ← Array.getElem?_toList]; exact hread k hk
  have HRT := Lib.hid hRT
  have HB := Lib.hid hB
  have HCL := Lib.hid hcl
  have HW2 := Lib.hid hW2
  clear hread hread1 hRT hB hcl hg2 hg1 hs1 hcur2 hW2 hbg
  have hA1 : (if i + 1 + m + ca = i + 1 then (none : Option Nat) else none) = none := by split <;> rfl
  have HRUN := Lib.hid hrun
  have HO := Lib.hid hO
  clear hcell hO hown hsrc hgc htk hcs hnl hone hcur1 hnews hrun hi0 hz0 hz1 hz2
  go_enter Tryz.func43, Tryz.ntmps43
  go_wp2
  refine wp_region_held_drew (S := fun _ => True) (by kernel_rfl) (by exact True.intro) (fun hHeld => ?_)
  refine wpAnyH_take (i := 0) (oi := { dst := some 20, op := Op.move (Operand.tmp 0), type := 22, pos := "slices.go:232", after := #[], guard := none }) (v := ?_) rfl (by kernel_rfl) (by kernel_rfl) (by kernel_rfl) (fun _ _ _ h => h) (Or.inl ⟨by rfl, ?_⟩) (by assumption) ?_
  rotate_left
  focus ((intro w hSw; (try dsimp only at hSw); go_simp); (try with_reducible rfl))
  try simp only [Act.put, List.setIfInBounds_toArray, List.set_cons_zero, List.set_cons_succ]
  refine wpAnyH_take (i := 1) (oi := { dst := some 21, op := Op.move (Operand.tmp 1), type := 3, pos := "slices.go:232", after := #[], guard := none }) (v := ?_) rfl (by kernel_rfl) (by kernel_rfl) (by kernel_rfl) (fun _ _ _ h => h) (Or.inl ⟨by rfl, ?_⟩) (by assumption) ?_
  rotate_left
  focus ((intro w hSw; (try dsimp only at hSw); go_simp); (try with_reducible rfl))
  try simp only [Act.put, List.setIfInBounds_toArray, List.set_cons_zero, List.set_cons_succ]
  refine wpAnyH_take (i := 3) (oi := { dst := some 23, op := Op.move (Operand.tmp 0), type := 22, pos := "slices.go:232", after := #[], guard := none }) (v := ?_) rfl (by kernel_rfl) (by kernel_rfl) (by kernel_rfl) (fun _ _ _ h => h) (Or.inl ⟨by rfl, ?_⟩) (by assumption) ?_
  rotate_left
  focus ((intro w hSw; (try dsimp only at hSw); go_simp); (try with_reducible rfl))
  try simp only [Act.put, List.setIfInBounds_toArray, List.set_cons_zero, List.set_cons_succ]
  refine wpAnyH_take (i := 4) (oi := { dst := some 24, op := Op.move (Operand.tmp 2), type := 3, pos := "slices.go:232", after := #[], guard := none }) (v := ?_) rfl (by kernel_rfl) (by kernel_rfl) (by kernel_rfl) (fun _ _ _ h => h) (Or.inl ⟨by rfl, ?_⟩) (by assumption) ?_
  rotate_left
  focus ((intro w hSw; (try dsimp only at hSw); go_simp); (try with_reducible rfl))
  try simp only [Act.put, List.setIfInBounds_toArray, List.set_cons_zero, List.set_cons_succ]
  refine wpAnyH_ready (rs := [2, 5]) (by kernel_rfl) (by simp) ?_
  refine AllReadyH.cons (o := { dst := some 22, op := Op.slice 22 (Operand.tmp 20) none (some (Operand.tmp 21)) none, type := 22, pos := "slices.go:232", after := #[{ on := 0, ground := Ground.data }, { on := 1, ground := Ground.data }], guard := none }) rfl (fun K hK => ?_) (AllReadyH.cons (o := { dst := some 25, op := Op.slice 22 (Operand.tmp 23) (some (Operand.tmp 24)) none none, type := 22, pos := "slices.go:232", after := #[{ on := 3, ground := Ground.data }, { on := 4, ground := Ground.data }], guard := none }) rfl (fun K hK => ?_) AllReadyH.nil)
  · clear hHeld
    go_simp
    rw [if_pos (by omega)]
    go_simp
    refine hK.out _ _ (by exact True.intro) (fun hHeld => ?_)
    clear hK K
    try simp only [Act.put, List.setIfInBounds_toArray, List.set_cons_zero, List.set_cons_succ]
    refine wpAnyH_ready (rs := [5]) (by kernel_rfl) (by simp) ?_
    refine AllReadyH.cons (o := { dst := some 25, op := Op.slice 22 (Operand.tmp 23) (some (Operand.tmp 24)) none none, type := 22, pos := "slices.go:232", after := #[{ on := 3, ground := Ground.data }, { on := 4, ground := Ground.data }], guard := none }) rfl (fun K hK => ?_) AllReadyH.nil
    clear hHeld
    go_simp
    rw [if_pos (by omega)]
    go_simp
    refine hK.out _ _ (by exact True.intro) (fun hHeld => ?_)
    clear hK K
    try simp only [Act.put, List.setIfInBounds_toArray, List.set_cons_zero, List.set_cons_succ]
    refine wpAnyH_ready (rs := [6]) (by kernel_rfl) (by simp) ?_
    refine AllReadyH.cons (o := { dst := some 26, op := Op.call { callee := Callee.builtin Builtin.append, args := #[Operand.tmp 22, Operand.tmp 25], argTypes := #[22, 22] }, type := 22, pos := "slices.go:232", after := #[{ on := 2, ground := Ground.data }, { on := 5, ground := Ground.data }], guard := none }) rfl (fun K hK => ?_) AllReadyH.nil
    clear hHeld
    refine op_addCur (.tmp 22) (.tmp 25) rfl rfl rfl HRUN.out ?_
    go_simp
    refine hK.out _ _ (by exact True.intro) (fun hHeld => ?_)
    clear hK K
    try simp only [Act.put, List.setIfInBounds_toArray, List.set_cons_zero, List.set_cons_succ]
    refine wpAnyH_ready (rs := [7]) (by kernel_rfl) (by simp) ?_
    refine AllReadyH.cons (o := { dst := some 0, op := Op.assign (Operand.tmp 26), type := 22, pos := "slices.go:232", after := #[{ on := 6, ground := Ground.data }, { on := 6, ground := Ground.chain }, { on := 0, ground := Ground.phase }, { on := 1, ground := Ground.phase }, { on := 2, ground := Ground.phase }, { on := 3, ground := Ground.phase }, { on := 4, ground := Ground.phase }, { on := 5, ground := Ground.phase }, { on := 6, ground := Ground.phase }], guard := none }) rfl (fun K hK => ?_) AllReadyH.nil
    clear hHeld
    go_simp
    refine hK.out _ _ (by exact True.intro) (fun hHeld => ?_)
    clear hK K
    try simp only [Act.put, List.setIfInBounds_toArray, List.set_cons_zero, List.set_cons_succ]
    refine wpAnyH_done (by kernel_rfl) ?_ _
    clear hHeld
    go_simp
    go_wp2
    rw [HCL.out]
    go_simp
    go_wp2
    go_ret
    exact ⟨by rw [show i + 1 + m - 1 = i + m by omega]; rfl, by rw [show i + 1 + m - 1 = i + m by omega]; exact HRT.out, HB.out⟩
  · clear hHeld
    go_simp
    rw [if_pos (by omega)]
    go_simp
    refine hK.out _ _ (by exact True.intro) (fun hHeld => ?_)
    clear hK K
    try simp only [Act.put, List.setIfInBounds_toArray, List.set_cons_zero, List.set_cons_succ]
    refine wpAnyH_ready (rs := [2]) (by kernel_rfl) (by simp) ?_
    refine AllReadyH.cons (o := { dst := some 22, op := Op.slice 22 (Operand.tmp 20) none (some (Operand.tmp 21)) none, type := 22, pos := "slices.go:232", after := #[{ on := 0, ground := Ground.data }, { on := 1, ground := Ground.data }], guard := none }) rfl (fun K hK => ?_) AllReadyH.nil
    clear hHeld
    go_simp
    rw [if_pos (by omega)]
    go_simp
    refine hK.out _ _ (by exact True.intro) (fun hHeld => ?_)
    clear hK K
    try simp only [Act.put, List.setIfInBounds_toArray, List.set_cons_zero, List.set_cons_succ]
    refine wpAnyH_ready (rs := [6]) (by kernel_rfl) (by simp) ?_
    refine AllReadyH.cons (o := { dst := some 26, op := Op.call { callee := Callee.builtin Builtin.append, args := #[Operand.tmp 22, Operand.tmp 25], argTypes := #[22, 22] }, type := 22, pos := "slices.go:232", after := #[{ on := 2, ground := Ground.data }, { on := 5, ground := Ground.data }], guard := none }) rfl (fun K hK => ?_) AllReadyH.nil
    clear hHeld
    refine op_addCur (.tmp 22) (.tmp 25) rfl rfl rfl HRUN.out ?_
    go_simp
    refine hK.out _ _ (by exact True.intro) (fun hHeld => ?_)
    clear hK K
    try simp only [Act.put, List.setIfInBounds_toArray, List.set_cons_zero, List.set_cons_succ]
    refine wpAnyH_ready (rs := [7]) (by kernel_rfl) (by simp) ?_
    refine AllReadyH.cons (o := { dst := some 0, op := Op.assign (Operand.tmp 26), type := 22, pos := "slices.go:232", after := #[{ on := 6, ground := Ground.data }, { on := 6, ground := Ground.chain }, { on := 0, ground := Ground.phase }, { on := 1, ground := Ground.phase }, { on := 2, ground := Ground.phase }, { on := 3, ground := Ground.phase }, { on := 4, ground := Ground.phase }, { on := 5, ground := Ground.phase }, { on := 6, ground := Ground.phase }], guard := none }) rfl (fun K hK => ?_) AllReadyH.nil
    clear hHeld
    go_simp
    refine hK.out _ _ (by exact True.intro) (fun hHeld => ?_)
    clear hK K
    try simp only [Act.put, List.setIfInBounds_toArray, List.set_cons_zero, List.set_cons_succ]
    refine wpAnyH_done (by kernel_rfl) ?_ _
    clear hHeld
    go_simp
    go_wp2
    rw [HCL.out]
    go_simp
    go_wp2
    go_ret
    exact ⟨by rw [show i + 1 + m - 1 = i + m by omega]; rfl, by rw [show i + 1 + m - 1 = i + m by omega]; exact HRT.out, HB.out⟩

end Go.Proofs.YtahnkmkmoalbhaaGreatDoor

namespace Go.Proofs.YtahnkmkmoalbhaaGreatDoor
open Go.RowKit

theorem cur_nsame (a : ByteArray) (p : Int) (W : World) : (binOp .neq 26 (.agg #[.string a, .int .i64 p]) (.agg #[.string a, .int .i64 p])).run Tryz.prog W = .ok (.bool false) W := by
  rw [run_neq_struct, cur_equal]; rfl
theorem cur_nguard (x y : Operand) (a c : ByteArray) (p q : Int) (W : World) : (eqGuard .neq 26 x y (.agg #[.string a, .int .i64 p]) (.agg #[.string c, .int .i64 q])).run Tryz.prog W = .ok () W :=
  run_eqGuard_agg W .neq _ x y _ _ (by kernel_rfl)

set_option maxRecDepth 100000 in
set_option maxHeartbeats 2000000 in
theorem amf_great (xa : Option Addr) (n ca : Nat) (c : Nat → ByteArray) (p : Nat → Int) (j : Int) (w : World) (hG : Ground w) (hx : Rt w xa n c p) (hn : n ≤ 9223372036854775807) (hg : greatTb n c = true) :
    Calls Tryz.prog 11 #[.slice xa n (n + ca), .int .u8 j] w fun e w' => e = .returned (.bool true) ∧ Below w.heap.size w w' := by
  have HGT := Lib.hid (rGreatTab w xa n (n + ca) c p hx hn)
  rw [hg] at HGT
  have HAW := Lib.hid mawake
  have HG := Lib.hid hG
  have hb := Below.refl w.heap.size w
  clear hx hg hG hn
  go_enter Tryz.func11, Tryz.ntmps11
  go_wp2_with fail
  refine HGT.out.mono ?_
  rintro _ _ ⟨rfl, rfl⟩
  go_wp2_with fail
  refine (HAW.out _ (HG.out.below hb)).mono ?_
  rintro _ w2 ⟨rfl, hB⟩
  go_wp2_with fail
  go_ret
  exact ⟨rfl, hb.trans (hB.mono hb.size)⟩

set_option maxRecDepth 100000 in
set_option maxHeartbeats 2000000 in
theorem amf_bad (xa : Option Addr) (n ca : Nat) (c : Nat → ByteArray) (p : Nat → Int) (j : Int) (w : World) (hG : Ground w) (hx : Rt w xa n c p) (hn : n ≤ 9223372036854775807) (hg : greatTb n c = false) (ht : tabE n c p ≠ 0) :
    Calls Tryz.prog 11 #[.slice xa n (n + ca), .int .u8 j] w fun e w' => e = .returned (.bool true) ∧ Below w.heap.size w w' := by
  have HGT := Lib.hid (rGreatTab w xa n (n + ca) c p hx hn)
  rw [hg] at HGT
  have HAW := Lib.hid mawake
  have HG := Lib.hid hG
  have hgf := greatTb_false hg
  have hft : FitT n c := ⟨by omega, fun i hi => by have := hgf.2 i hi; omega⟩
  have T1 := Lib.hid (pTab w xa n (n + ca) (by omega) c p hx hft)
  obtain ⟨d, hd⟩ : ∃ d, tabE n c p = d := ⟨_, rfl⟩
  rw [hd] at T1
  have hd0 : (d != 0) = true := by rw [bne_iff_ne, ← hd]; exact ht
  clear hx hg hG hn ht hd hgf hft
  go_enter Tryz.func11, Tryz.ntmps11
  go_wp2_with fail
  refine HGT.out.mono ?_
  rintro _ _ ⟨rfl, rfl⟩
  go_wp2_with fail
  refine Calls.mono T1.out ?_
  rintro _ _ ⟨rfl, hb⟩
  go_wp2_with fail
  refine (HAW.out _ (HG.out.below hb)).mono ?_
  rintro _ w2 ⟨rfl, hB⟩
  go_wp2_with fail
  go_ret
  exact ⟨rfl, hb.trans (hB.mono hb.size)⟩

set_option maxRecDepth 100000 in
set_option maxHeartbeats 2000000 in
theorem amf_nil (xa : Option Addr) (n ca : Nat) (c : Nat → ByteArray) (p : Nat → Int) (j : Int) (w : World) (hG : Ground w) (hx : Rt w xa n c p) (hn : n ≤ 9223372036854775807) (hg : greatTb n c = false) (ht : tabE n c p = 0) (h0 : n = 0) :
    Calls Tryz.prog 11 #[.slice xa n (n + ca), .int .u8 j] w fun e w' => e = .returned (.bool true) ∧ Below w.heap.size w w' := by
  have HGT := Lib.hid (rGreatTab w xa n (n + ca) c p hx hn)
  rw [hg] at HGT
  have HAW := Lib.hid mawake
  have HG := Lib.hid hG
  have hgf := greatTb_false hg
  have hft : FitT n c := ⟨by omega, fun i hi => by have := hgf.2 i hi; omega⟩
  have T1 := Lib.hid (pTab w xa n (n + ca) (by omega) c p hx hft)
  rw [ht] at T1
  have hz : ((n : Int) == 0) = true := by rw [h0]; rfl
  clear hx hg hG hn ht hgf hft h0
  go_enter Tryz.func11, Tryz.ntmps11
  go_wp2_with fail
  refine HGT.out.mono ?_
  rintro _ _ ⟨rfl, rfl⟩
  go_wp2_with fail
  refine Calls.mono T1.out ?_
  rintro _ _ ⟨rfl, hb⟩
  go_wp2_with fail
  refine (HAW.out _ (HG.out.below hb)).mono ?_
  rintro _ w2 ⟨rfl, hB⟩
  go_wp2_with fail
  go_ret
  exact ⟨rfl, hb.trans (hB.mono hb.size)⟩

theorem two_src {w : World} {T : Nat} {ui : ByteArray} {pi : Int} (h0 : w.cell? ⟨T, 0, none⟩ = some (.string ui)) (h1 : w.cell? ⟨T, 1, none⟩ = some (.int .i64 pi)) (q : Nat) (hq : q < 1 * 2) : w.cell? ((⟨T, 0, none⟩ : Addr).add q) = some (curC' (fun _ => ui) (fun _ => pi) q) := by
  match q, hq with
  | 0, _ => exact h0
  | 1, _ => exact h1
theorem OwnT.stay {w w' : World} {base base' : Nat} {v : Value} {n : Nat} {f : Nat → Value} (h : OwnT w base v n f) (hb : Below w.heap.size w w') (hle : base' ≤ base) : OwnT w' base' v n f := by
  refine ⟨h.1, ?_⟩
  rcases h.2 with e | ⟨g, cp, cur, e, h0, h1, h2⟩
  · exact Or.inl e
  · exact Or.inr ⟨g, cp, cur, e, Nat.le_trans hle h0, by rw [hb.block g (Array.getElem?_eq_some_iff.1 h1).1]; exact h1, h2⟩
theorem OwnT.rt {w : World} {base : Nat} {v : Value} {n : Nat} {c : Nat → ByteArray} {p : Nat → Int} (h : OwnT w base v n (curC' c p)) (h0 : 0 < n) :
    ∃ g cp, v = .slice (some ⟨g, 0, none⟩) n cp ∧ n ≤ cp ∧ Rt w (some ⟨g, 0, none⟩) n c p := by
  rcases h.2 with ⟨_, e⟩ | ⟨g, cp, cur, e, _, h1, h2, _, h4, h5⟩
  · omega
  · refine ⟨g, cp, e, h2, ⟨fun _ => ⟨g, 0, rfl, (Array.getElem?_eq_some_iff.1 h1).1, fun k hk => ?_⟩⟩⟩
    rw [Nat.zero_add, cell_of_row w g k cur _ _ h1, ← Array.getElem?_toList]
    have : (cur.toList.take (n * 2))[k]? = some (curC' c p k) := by rw [h5, List.getElem?_map, List.getElem?_range hk]; rfl
    rwa [List.getElem?_take_of_lt hk] at this
/-- f, and at n: y -/
def endF {α : Type} (n : Nat) (f : Nat → α) (y : α) (k : Nat) : α := if k < n then f k else y
theorem GoodT.del {n : Nat} {c : Nat → ByteArray} {p : Nat → Int} (h : GoodT n c p) {i : Nat} (hi : i < n) : GoodT (n - 1) (delF c i) (delF p i) := by
  refine ⟨by have := h.few; omega, fun k hk => ?_, fun k hk => ?_, fun k hk => ?_, fun a k hk ha => ?_⟩
  · unfold delF; split <;> exact h.code _ (by omega)
  · unfold delF; split <;> exact h.low _ (by omega)
  · unfold delF; split <;> exact h.high _ (by omega)
  · unfold delF
    by_cases h1 : k < i
    · rw [if_pos h1]
      by_cases h2 : a < i
      · rw [if_pos h2]; exact h.diff a k hk (by omega)
      · rw [if_neg h2]; exact h.diff (a + 1) k (by omega) (by omega)
    · rw [if_neg h1, if_neg (by omega)]; exact h.diff (a + 1) (k + 1) (by omega) (by omega)
theorem del_none {n : Nat} {c : Nat → ByteArray} {p : Nat → Int} (h : GoodT n c p) {i : Nat} (hi : i < n) : curI (n - 1) (delF c i) (c i) = none := by
  refine curI_none fun k hk => ?_
  unfold delF
  by_cases h1 : k < i
  · rw [if_pos h1]; exact h.diff i k h1 hi
  · rw [if_neg h1]; exact fun e => h.diff (k + 1) i (by omega) (by omega) e.symm
theorem tab_end {n : Nat} {c : Nat → ByteArray} {p : Nat → Int} (h : GoodT n c p) {i : Nat} (hi : i < n) : tabE (n + 1) (endF n c (c i)) (endF n p (p i)) = if n < 16 then 5 else 4 := by
  unfold tabE
  by_cases h1 : n < 16
  · rw [if_neg (by omega), if_pos h1]
    have hz := h.zero
    unfold tabE at hz
    rw [if_neg (by omega)] at hz
    have hz2 := firstE_zero.1 hz
    have hlow : ∀ k, k < n → tabAt (endF n c (c i)) (endF n p (p i)) k = 0 := fun k hk => by
      rw [← hz2 k hk]
      unfold tabAt
      have e1 : endF n c (c i) k = c k := by unfold endF; rw [if_pos hk]
      have e2 : endF n p (p i) k = p k := by unfold endF; rw [if_pos hk]
      have e3 : (List.range k).any (fun l => decide (endF n c (c i) l = c k)) = (List.range k).any (fun l => decide (c l = c k)) := by
        rw [Bool.eq_iff_iff, List.any_eq_true, List.any_eq_true]
        constructor
        · rintro ⟨l, hl, e⟩
          have := List.mem_range.1 hl
          refine ⟨l, hl, ?_⟩
          unfold endF at e
          rwa [if_pos (by omega)] at e
        · rintro ⟨l, hl, e⟩
          have := List.mem_range.1 hl
          refine ⟨l, hl, ?_⟩
          unfold endF
          rwa [if_pos (by omega)]
      rw [e1, e2, e3]
    have hlast : tabAt (endF n c (c i)) (endF n p (p i)) n = 5 := by
      unfold tabAt
      have e1 : endF n c (c i) n = c i := by unfold endF; rw [if_neg (by omega)]
      have e2 : endF n p (p i) n = p i := by unfold endF; rw [if_neg (by omega)]
      have a1 := h.low i hi
      have a2 := h.high i hi
      rw [e1, e2, if_neg (by rw [h.code i hi]; decide), if_neg (by omega), if_pos]
      refine List.any_eq_true.2 ⟨i, List.mem_range.2 hi, decide_eq_true ?_⟩
      unfold endF; rw [if_pos hi]
    rw [firstE_at (by rw [hlast]; decide) hlow (Nat.lt_succ_self n), hlast]
  · rw [if_pos (by omega), if_neg h1]

set_option maxRecDepth 100000 in
set_option maxHeartbeats 2000000 in
theorem amf_ok (xa : Option Addr) (n ca : Nat) (c : Nat → ByteArray) (p : Nat → Int) (j : Int) (w : World) (hG : Ground w) (hx : Rt w xa n c p) (hn : n ≤ 9223372036854775807) (hg : greatTb n c = false) (ht : tabE n c p = 0) (h0 : 0 < n) (hj0 : 0 ≤ j) (hj1 : j ≤ 255) :
    Calls Tryz.prog 11 #[.slice xa n (n + ca), .int .u8 j] w fun e w' => e = .returned (.bool true) ∧ Below w.heap.size w w' := by
  have HGT := Lib.hid (rGreatTab w xa n (n + ca) c p hx hn)
  rw [hg] at HGT
  have HAW := Lib.hid mawake
  have HG := Lib.hid hG
  have hgf := greatTb_false hg
  have hft : FitT n c := ⟨by omega, fun i hi => by have := hgf.2 i hi; omega⟩
  have T1 := Lib.hid (pTab w xa n (n + ca) (by omega) c p hx hft)
  rw [ht] at T1
  have HGD := Lib.hid (tabE_zero ht)
  obtain ⟨jn, rfl⟩ : ∃ k : Nat, j = (k : Int) := ⟨j.toNat, by omega⟩
  obtain ⟨i, hi⟩ : ∃ i, jn % n = i := ⟨_, rfl⟩
  have hin : i < n := by rw [← hi]; exact Nat.mod_lt _ h0
  have hmod : Int.tmod (jn : Int) (n : Int) = (i : Int) := by rw [Int.tmod_eq_emod_of_nonneg (by omega), ← hi]; rfl
  have hw64 : wrap64 (jn : Int) = (jn : Int) := by unfold wrap64; omega
  have hz : ((n : Int) == 0) = false := by rw [beq_eq_false_iff_ne]; omega
  have hi0 : (0 : Int) ≤ (i : Int) := by omega
  have hi1 : (i : Int) < (n : Int) := by omega
  have hn1 : (i : Int) + 1 ≤ (n : Int) := by omega
  have hw1 : IntKind.i64.wrap ((i : Int) + 1) = (i : Int) + 1 := IntWalk.i64_in _ (by omega)
  obtain ⟨b, o, rfl, hlt0, hcl0⟩ := hx.sl (by omega)
  have HX := Lib.hid hx
  have HFD := Lib.hid (show FitT (n - 1) (delF c i) from ⟨by omega, fun q hq => by have a1 := hgf.2 q (by omega); have a2 := hgf.2 (q + 1) (by omega); unfold delF; split <;> omega⟩)
  have HFE := Lib.hid (show FitT (n + 1) (endF n c (c i)) from ⟨by omega, fun q hq => by have a1 := hgf.2 i hin; unfold endF; exact if hq2 : q < n then (by rw [if_pos hq2]; exact Nat.le_trans (hgf.2 q hq2) (by omega)) else (by rw [if_neg hq2]; omega)⟩)
  have HN := Lib.hid (show n ≤ 16 from HGD.out.few)
  have F1 := Lib.hid (fun k (hk : k < n) W (hr : Rt W (some ⟨b, o, none⟩) n c p) => by have := pFind W (some ⟨b, o, none⟩) n (n + ca) c p (c k) hr hn; rw [curI_at hk rfl (fun l hl => HGD.out.diff k l hl hk)] at this; exact this)
  have HJ := Lib.hid hj0
  have HJ1 := Lib.hid hj1
  clear hx hg hG ht hgf hft hj0 hj1 hcl0
  go_enter Tryz.func11, Tryz.ntmps11
  go_wp2_with fail
  refine HGT.out.mono ?_
  rintro _ _ ⟨rfl, rfl⟩
  go_wp2_with fail
  refine Calls.mono T1.out ?_
  rintro _ w1 ⟨rfl, hb1⟩
  go_wp2_with fail
  go_loopw [30] (fun iv wr => ∃ k : Nat, k ≤ n ∧ iv = .int .i64 (k : Int) ∧ Hid (Below w.heap.size w wr)) (fun iv _ => n - (intOf iv).toNat)
  case atStart => exact ⟨0, Nat.zero_le _, rfl, Lib.hid hb1⟩
  case round =>
    obtain ⟨k, hk, rfl, HB⟩ := hrel
    by_cases hlt : k < n
    · have hwk : IntKind.i64.wrap ((k : Int) + 1) = (k : Int) + 1 := IntWalk.i64_in _ (by omega)
      have y := Rt.at HX.out hlt
      obtain ⟨_, _, e, hb, y1, y2⟩ := y
      injection e with e; injection e with e1 e2; subst e1; subst e2
      have z1 := (HB.out.cell (p := ⟨b, o + k * 2, none⟩) hb).trans y1
      have z2 := (HB.out.cell (p := ⟨b, o + k * 2 + 1, none⟩) hb).trans y2
      have HF := Lib.hid (F1.out k hlt)
      have hlt' : (k : Int) < (n : Int) := by omega
      obtain ⟨uk, huk⟩ : ∃ y, c k = y := ⟨_, rfl⟩
      obtain ⟨pk, hpk⟩ : ∃ q, p k = q := ⟨_, rfl⟩
      rw [show curV c p (some k) = .tuple #[.agg #[.string (c k), .int .i64 (p k)], .bool true] from rfl, huk, hpk] at HF
      rw [huk] at z1
      rw [hpk] at z2
      have hgd := fun X Y W => cur_nguard X Y uk uk pk pk W
      have hsm := cur_nsame uk pk
      clear y1 y2 huk hpk
      obtain ⟨S5, hS5⟩ : ∃ k, wr.heap.size = k := ⟨_, rfl⟩
      obtain ⟨V5, hV5⟩ : ∃ W, W = wr.alloc (.cells #[.string uk, .int .i64 pk] 26) := ⟨_, rfl⟩
      have hp5 : TwoAt V5 S5 26 (.string uk) (.int .i64 pk) := by rw [hV5, ← hS5]; exact TwoAt.made _ _ _ _
      have hb5 : Below w.heap.size w V5 := by rw [hV5]; exact HB.out.alloc HB.out.size _
      go_upto_region 6 with fail
      rw [← hV5]
      try rw [hS5]
      clear hV5 hS5
      have hp5k := hp5
      obtain ⟨q1, q2, _, _⟩ := hp5.cells
      go_wp2_with fail
      refine Calls.mono (HF.out _ (HX.out.belowAt hb5 (Nat.le_refl _))) ?_
      rintro _ w6 ⟨rfl, hB⟩
      have hb6 := hb5.trans (hB.mono hb5.size)
      have hp6 := hp5.below6 hB
      clear hB q1 q2 hp5 hp5k
      obtain ⟨S6, hS6⟩ : ∃ k, w6.heap.size = k := ⟨_, rfl⟩
      obtain ⟨V6, hV6⟩ : ∃ W, W = w6.alloc (.cells #[.string uk, .int .i64 pk] 26) := ⟨_, rfl⟩
      have hq6 : TwoAt V6 S6 26 (.string uk) (.int .i64 pk) := by rw [hV6, ← hS6]; exact TwoAt.made _ _ _ _
      have HB7 := Lib.hid (show Below w.heap.size w V6 by rw [hV6]; exact hb6.alloc hb6.size _)
      replace hp6 : TwoAt V6 S5 26 (.string uk) (.int .i64 pk) := by rw [hV6]; exact hp6.below6 ((Below.refl _ _).alloc (Nat.le_refl _) _)
      go_upto_region 7 with fail
      rw [← hV6]
      try rw [hS6]
      clear hV6 hS6
      obtain ⟨q1, q2, _, _⟩ := hp6.cells
      obtain ⟨q3, q4, _, _⟩ := hq6.cells
      go_wp2_with fail
      go_roundw
      case rel => exact ⟨k + 1, by omega, by simp, HB7⟩
      case measure => simp [intOf]; omega
    · obtain rfl : k = n := by omega
      go_wp2_with fail
      refine Calls.mono (pClone wr b o k (k + ca) c p (HX.out.belowAt HB.out (Nat.le_refl _)) (by have := HN.out; omega) h0) ?_
      rintro _ wc ⟨g1, cp1, rfl, hO1, hB1⟩
      have hbc := HB.out.trans (hB1.mono HB.out.size)
      have hD := pDelete wc wr.heap.size g1 k cp1 i c p hO1 hin (by have := HN.out; omega)
      rw [show ((i + 1 : Nat) : Int) = (i : Int) + 1 by omega] at hD
      go_wp2_with fail
      refine Calls.mono hD ?_
      rintro _ wd ⟨rfl, hL, hB2⟩
      have hbd := hbc.trans (hB2.mono HB.out.size)
      obtain ⟨_, _, e1, hcp1, _⟩ := OwnT.rt hO1 h0
      injection e1 with e1 e2 e3
      subst e3
      have HCP := Lib.hid hcp1
      clear hD hO1 hB1 hB2 hbc e1 hcp1
      obtain ⟨ui, hui⟩ : ∃ y, c i = y := ⟨_, rfl⟩
      obtain ⟨pi, hpi⟩ : ∃ y, p i = y := ⟨_, rfl⟩
      have CELL := Lib.hid (fun W (h : Below w.heap.size w W) => (show W.cell? ⟨b, o + i * 2, none⟩ = some (.string ui) ∧ W.cell? ⟨b, o + i * 2 + 1, none⟩ = some (.int .i64 pi) by
        obtain ⟨_, _, e, _, y1, y2⟩ := Rt.at (HX.out.belowAt h (Nat.le_refl _)) hin
        injection e with e; injection e with e1 e2; subst e1; subst e2
        exact ⟨by rw [y1, hui], by rw [y2, hpi]⟩))
      have hF2 := pFind wd (some ⟨g1, 0, none⟩) (k - 1) cp1 (delF c i) (delF p i) (c i) hL (by omega)
      rw [del_none HGD.out hin, hui] at hF2
      have HL := Lib.hid hL
      have HF2 := Lib.hid hF2
      have HUI := Lib.hid hui
      have HPI := Lib.hid hpi
      have HBD := Lib.hid hbd
      clear hL hF2 hui hpi F1
      obtain ⟨z1, z2⟩ := CELL.out _ hbd
      clear hbd
      go_wp2_with fail
      refine Calls.mono HF2.out ?_
      rintro _ we ⟨hev, hB⟩
      rw [show curV (delF c i) (delF p i) none = .tuple #[.agg #[.string ⟨#[]⟩, .int .i64 0], .bool false] from rfl] at hev
      subst hev
      have hbe := HBD.out.trans (hB.mono HBD.out.size)
      clear z1 z2 HF2
      obtain ⟨V, hV⟩ : ∃ W, W = we.alloc (.cells #[.string ⟨#[]⟩, .int .i64 0] 26) := ⟨_, rfl⟩
      obtain ⟨S, hS⟩ : ∃ k, we.heap.size = k := ⟨_, rfl⟩
      have hbv : Below w.heap.size w V := by rw [hV]; exact hbe.alloc hbe.size _
      have HLV := Lib.hid (show Rt V (some ⟨g1, 0, none⟩) (k - 1) (delF c i) (delF p i) by
        rw [hV]; exact (HL.out.belowAt hB (Nat.le_refl _)).belowAt ((Below.refl _ _).alloc (Nat.le_refl _) _) (Nat.le_refl _))
      clear hB hbe HL HBD
      go_upto_region 13 with fail
      rw [← hV]
      try rw [hS]
      clear hV hS
      have HV := Lib.hid hbv
      have HBv := Lib.hid (show Below V.heap.size V V.drew from below_drew (Below.refl _ _))
      clear hbv
      refine wp_region_held_drew (S := fun _ => True) (by kernel_rfl) (by exact True.intro) (fun hHeld => ?_)
      refine wpAnyH_take (i := 0) (oi := { dst := some 70, op := Op.move (Operand.tmp 0), type := 22, pos := "law.go:176", after := #[], guard := none }) (v := ?_) rfl (by kernel_rfl) (by kernel_rfl) (by kernel_rfl) (fun _ _ _ h => h) (Or.inl ⟨by rfl, ?_⟩) (by assumption) ?_
      rotate_left
      focus ((intro w hSw; (try dsimp only at hSw); go_simp); (try with_reducible rfl))
      try simp only [Act.put, List.setIfInBounds_toArray, List.set_cons_zero, List.set_cons_succ]
      refine wpAnyH_take (i := 2) (oi := { dst := some 72, op := Op.move (Operand.tmp 0), type := 22, pos := "law.go:176", after := #[], guard := none }) (v := ?_) rfl (by kernel_rfl) (by kernel_rfl) (by kernel_rfl) (fun _ _ _ h => h) (Or.inl ⟨by rfl, ?_⟩) (by assumption) ?_
      rotate_left
      focus ((intro w hSw; (try dsimp only at hSw); go_simp); (try with_reducible rfl))
      try simp only [Act.put, List.setIfInBounds_toArray, List.set_cons_zero, List.set_cons_succ]
      refine wpAnyH_take (i := 3) (oi := { dst := some 73, op := Op.move (Operand.tmp 9), type := 3, pos := "law.go:176", after := #[], guard := none }) (v := ?_) rfl (by kernel_rfl) (by kernel_rfl) (by kernel_rfl) (fun _ _ _ h => h) (Or.inl ⟨by rfl, ?_⟩) (by assumption) ?_
      rotate_left
      focus ((intro w hSw; (try dsimp only at hSw); go_simp); (try with_reducible rfl))
      try simp only [Act.put, List.setIfInBounds_toArray, List.set_cons_zero, List.set_cons_succ]
      refine wpAnyH_take (i := 4) (oi := { dst := some 74, op := Op.indexAddr 22 (Operand.tmp 72) (Operand.tmp 73), type := 0, pos := "law.go:176", after := #[{ on := 2, ground := Ground.data }, { on := 3, ground := Ground.data }], guard := none }) (v := ?_) rfl (by kernel_rfl) (by kernel_rfl) (by kernel_rfl) (fun _ _ _ h => h) (Or.inl ⟨by rfl, ?_⟩) (by assumption) ?_
      rotate_left
      focus ((intro w hSw; (try dsimp only at hSw); go_simp); (try with_reducible rfl))
      try simp only [Act.put, List.setIfInBounds_toArray, List.set_cons_zero, List.set_cons_succ]
      refine wpAnyH_ready (rs := [1, 5]) (by kernel_rfl) (by simp) ?_
      refine AllReadyH.cons (o := { dst := some 71, op := Op.call { callee := Callee.value (Operand.func 44), args := #[Operand.tmp 70], argTypes := #[22] }, type := 22, pos := "law.go:176", after := #[{ on := 0, ground := Ground.data }], guard := none }) rfl (fun K hK => ?_) (AllReadyH.cons (o := { dst := some 75, op := Op.load 26 (Operand.tmp 74), type := 26, pos := "law.go:176", after := #[{ on := 4, ground := Ground.data }], guard := none }) rfl (fun K hK => ?_) AllReadyH.nil)
      · clear hHeld
        go_simp
        refine Calls.mono (pClone _ b o k (k + ca) c p (HX.out.belowAt (HV.out.trans (HBv.out.mono HV.out.size)) (Nat.le_refl _)) (by have := HN.out; omega) h0) ?_
        rintro _ wq ⟨g2, cp2, rfl, hO2, hB⟩
        have HOc := Lib.hid (OwnT.stay hO2 (Below.refl _ _) HBv.out.size)
        replace HBv := Lib.hid (HBv.out.trans (hB.mono HBv.out.size))
        clear hO2 hB
        go_wp2_with fail
        refine hK.out _ _ (by exact True.intro) (fun hHeld => ?_)
        clear hK K
        try simp only [Act.put, List.setIfInBounds_toArray, List.set_cons_zero, List.set_cons_succ]
        refine wpAnyH_ready (rs := [5]) (by kernel_rfl) (by simp) ?_
        refine AllReadyH.cons (o := { dst := some 75, op := Op.load 26 (Operand.tmp 74), type := 26, pos := "law.go:176", after := #[{ on := 4, ground := Ground.data }], guard := none }) rfl (fun K hK => ?_) AllReadyH.nil
        clear hHeld
        obtain ⟨z1, z2⟩ := CELL.out _ (HV.out.trans (HBv.out.mono HV.out.size))
        go_simp
        refine hK.out _ _ (by exact True.intro) (fun hHeld => ?_)
        clear hK K
        try simp only [Act.put, List.setIfInBounds_toArray, List.set_cons_zero, List.set_cons_succ]
        refine wpAnyH_ready (rs := [6]) (by kernel_rfl) (by simp) ?_
        refine AllReadyH.cons (o := { dst := some 76, op := Op.buildSlice 22 1 #[(0, Operand.tmp 75)], type := 22, pos := "law.go:176", after := #[{ on := 5, ground := Ground.data }], guard := none }) rfl (fun K hK => ?_) AllReadyH.nil
        clear hHeld
        go_simp
        obtain ⟨T, hT⟩ : ∃ k, wq.heap.size = k := ⟨_, rfl⟩
        obtain ⟨WB, hWB⟩ : ∃ W, W = World.alloc (wq) (.cells #[.string ui, .int .i64 pi] 26) := ⟨_, rfl⟩
        try rw [← hWB]
        try rw [hT]
        have hT0 : TwoAt WB T 26 (.string ui) (.int .i64 pi) := by rw [hWB, ← hT]; exact TwoAt.made _ _ _ _
        have HT := Lib.hid (show TwoAt WB T 26 (.string ui) (.int .i64 pi) from hT0)
        replace HOc := Lib.hid (OwnT.stay (w' := WB) HOc.out (by rw [hWB]; exact (Below.refl _ _).alloc (Nat.le_refl _) _) (Nat.le_refl _))
        replace HBv := Lib.hid (show Below V.heap.size V WB by rw [hWB]; exact HBv.out.alloc HBv.out.size _)
        clear hWB hT hT0
        refine hK.out _ _ (by exact True.intro) (fun hHeld => ?_)
        clear hK K
        try simp only [Act.put, List.setIfInBounds_toArray, List.set_cons_zero, List.set_cons_succ]
        refine wpAnyH_ready (rs := [7]) (by kernel_rfl) (by simp) ?_
        refine AllReadyH.cons (o := { dst := some 77, op := Op.call { callee := Callee.builtin Builtin.append, args := #[Operand.tmp 71, Operand.tmp 76], argTypes := #[22, 22] }, type := 22, pos := "law.go:176", after := #[{ on := 1, ground := Ground.data }, { on := 6, ground := Ground.data }, { on := 1, ground := Ground.chain }], guard := none }) rfl (fun K hK => ?_) AllReadyH.nil
        clear hHeld
        obtain ⟨x1, x2, _, _⟩ := HT.out.cells
        have hsrc := two_src x1 x2
        obtain ⟨v9, w9, hrun, hO9, hB9, _⟩ := OwnT.addMany (h := curC' (endF k c ui) (endF k p pi)) (g := curC' (fun _ => ui) (fun _ => pi)) HOc.out ⟨T, 0, none⟩ 1 1 hsrc (curC'_one _ _) 22 (by have := HN.out; omega) HBv.out.size (fun q hq => by unfold curC' endF; rw [if_pos (show q / 2 < k by omega), if_pos (show q / 2 < k by omega)]) (fun q hq => by unfold curC' endF; rw [if_neg (show ¬ (k * 2 + q) / 2 < k by omega), if_neg (show ¬ (k * 2 + q) / 2 < k by omega), show (k * 2 + q) % 2 = q % 2 by omega])
        obtain ⟨g3, cp3, rfl, hcp3, hR3⟩ := OwnT.rt hO9 (Nat.succ_pos k)
        have HBz := Lib.hid (HBv.out.trans hB9)
        have HR3 := Lib.hid hR3
        have HC3 := Lib.hid hcp3
        have HRUN := Lib.hid hrun
        clear hO9 hB9 hrun hR3 hcp3 x1 x2 hsrc HT HOc HBv
        refine op_addCur (.tmp 71) (.tmp 76) rfl rfl rfl HRUN.out ?_
        clear HRUN
        go_simp
        refine hK.out _ _ (by exact True.intro) (fun hHeld => ?_)
        clear hK K
        try simp only [Act.put, List.setIfInBounds_toArray, List.set_cons_zero, List.set_cons_succ]
        refine wpAnyH_ready (rs := [8]) (by kernel_rfl) (by simp) ?_
        refine AllReadyH.cons (o := { dst := some 13, op := Op.assign (Operand.tmp 77), type := 22, pos := "law.go:176", after := #[{ on := 7, ground := Ground.data }, { on := 7, ground := Ground.chain }, { on := 0, ground := Ground.phase }, { on := 1, ground := Ground.phase }, { on := 2, ground := Ground.phase }, { on := 3, ground := Ground.phase }, { on := 4, ground := Ground.phase }, { on := 5, ground := Ground.phase }, { on := 6, ground := Ground.phase }, { on := 7, ground := Ground.phase }], guard := none }) rfl (fun K hK => ?_) AllReadyH.nil
        clear hHeld
        go_simp
        refine hK.out _ _ (by exact True.intro) (fun hHeld => ?_)
        clear hK K
        try simp only [Act.put, List.setIfInBounds_toArray, List.set_cons_zero, List.set_cons_succ]
        refine wpAnyH_done (by kernel_rfl) ?_ _
        clear hHeld
        have HBw := Lib.hid (HV.out.trans (HBz.out.mono HV.out.size))
        have HLf := Lib.hid (HLV.out.belowAt HBz.out (Nat.le_refl _))
        have hT2 := pTab w9 (some ⟨g3, 0, none⟩) (k + 1) cp3 HC3.out (endF k c ui) (endF k p pi) HR3.out (by rw [← HUI.out]; exact HFE.out)
        have he := tab_end HGD.out hin
        rw [HUI.out, HPI.out] at he
        clear HR3 HC3 HBz
        by_cases h16 : k < 16
        · rw [he, if_pos h16] at hT2
          clear he
          go_wp2_with fail
          refine Calls.mono hT2 ?_
          rintro _ wf ⟨rfl, hBf⟩
          have HBf := Lib.hid (HBw.out.trans (hBf.mono HBw.out.size))
          have HLg := Lib.hid (HLf.out.belowAt hBf (Nat.le_refl _))
          clear hBf
          go_wp2_with fail
          refine Calls.mono (pTab wf (some ⟨g1, 0, none⟩) (k - 1) cp1 (by have := HCP.out; omega) (delF c i) (delF p i) HLg.out HFD.out) ?_
          rintro _ wg ⟨hz5, hBg⟩
          rw [(HGD.out.del hin).zero] at hz5
          subst hz5
          have HBg := Lib.hid (HBf.out.trans (hBg.mono HBf.out.size))
          clear hBg
          go_wp2_with fail
          refine (HAW.out _ (HG.out.below HBg.out)).mono ?_
          rintro _ wh ⟨rfl, hBh⟩
          go_wp2_with fail
          go_ret
          exact ⟨rfl, HBg.out.trans (hBh.mono HBg.out.size)⟩
        · rw [he, if_neg h16] at hT2
          have hk16 : ((k : Int) == 16) = true := by rw [beq_iff_eq]; have := HN.out; omega
          clear he
          go_wp2_with fail
          refine Calls.mono hT2 ?_
          rintro _ wf ⟨rfl, hBf⟩
          have HBf := Lib.hid (HBw.out.trans (hBf.mono HBw.out.size))
          have HLg := Lib.hid (HLf.out.belowAt hBf (Nat.le_refl _))
          clear hBf
          go_wp2_with fail
          refine Calls.mono (pTab wf (some ⟨g1, 0, none⟩) (k - 1) cp1 (by have := HCP.out; omega) (delF c i) (delF p i) HLg.out HFD.out) ?_
          rintro _ wg ⟨hz5, hBg⟩
          rw [(HGD.out.del hin).zero] at hz5
          subst hz5
          have HBg := Lib.hid (HBf.out.trans (hBg.mono HBf.out.size))
          clear hBg
          go_wp2_with fail
          refine (HAW.out _ (HG.out.below HBg.out)).mono ?_
          rintro _ wh ⟨rfl, hBh⟩
          go_wp2_with fail
          go_ret
          exact ⟨rfl, HBg.out.trans (hBh.mono HBg.out.size)⟩
      · clear hHeld
        obtain ⟨z1, z2⟩ := CELL.out _ (HV.out.trans (HBv.out.mono HV.out.size))
        go_simp
        refine hK.out _ _ (by exact True.intro) (fun hHeld => ?_)
        clear hK K
        try simp only [Act.put, List.setIfInBounds_toArray, List.set_cons_zero, List.set_cons_succ]
        refine wpAnyH_ready (rs := [1, 6]) (by kernel_rfl) (by simp) ?_
        refine AllReadyH.cons (o := { dst := some 71, op := Op.call { callee := Callee.value (Operand.func 44), args := #[Operand.tmp 70], argTypes := #[22] }, type := 22, pos := "law.go:176", after := #[{ on := 0, ground := Ground.data }], guard := none }) rfl (fun K hK => ?_) (AllReadyH.cons (o := { dst := some 76, op := Op.buildSlice 22 1 #[(0, Operand.tmp 75)], type := 22, pos := "law.go:176", after := #[{ on := 5, ground := Ground.data }], guard := none }) rfl (fun K hK => ?_) AllReadyH.nil)
        · clear hHeld
          go_simp
          refine Calls.mono (pClone _ b o k (k + ca) c p (HX.out.belowAt (HV.out.trans (HBv.out.mono HV.out.size)) (Nat.le_refl _)) (by have := HN.out; omega) h0) ?_
          rintro _ wq ⟨g2, cp2, rfl, hO2, hB⟩
          have HOc := Lib.hid (OwnT.stay hO2 (Below.refl _ _) HBv.out.size)
          replace HBv := Lib.hid (HBv.out.trans (hB.mono HBv.out.size))
          clear hO2 hB
          go_wp2_with fail
          refine hK.out _ _ (by exact True.intro) (fun hHeld => ?_)
          clear hK K
          try simp only [Act.put, List.setIfInBounds_toArray, List.set_cons_zero, List.set_cons_succ]
          refine wpAnyH_ready (rs := [6]) (by kernel_rfl) (by simp) ?_
          refine AllReadyH.cons (o := { dst := some 76, op := Op.buildSlice 22 1 #[(0, Operand.tmp 75)], type := 22, pos := "law.go:176", after := #[{ on := 5, ground := Ground.data }], guard := none }) rfl (fun K hK => ?_) AllReadyH.nil
          clear hHeld
          go_simp
          obtain ⟨T, hT⟩ : ∃ k, wq.heap.size = k := ⟨_, rfl⟩
          obtain ⟨WB, hWB⟩ : ∃ W, W = World.alloc (wq) (.cells #[.string ui, .int .i64 pi] 26) := ⟨_, rfl⟩
          try rw [← hWB]
          try rw [hT]
          have hT0 : TwoAt WB T 26 (.string ui) (.int .i64 pi) := by rw [hWB, ← hT]; exact TwoAt.made _ _ _ _
          have HT := Lib.hid (show TwoAt WB T 26 (.string ui) (.int .i64 pi) from hT0)
          replace HOc := Lib.hid (OwnT.stay (w' := WB) HOc.out (by rw [hWB]; exact (Below.refl _ _).alloc (Nat.le_refl _) _) (Nat.le_refl _))
          replace HBv := Lib.hid (show Below V.heap.size V WB by rw [hWB]; exact HBv.out.alloc HBv.out.size _)
          clear hWB hT hT0
          refine hK.out _ _ (by exact True.intro) (fun hHeld => ?_)
          clear hK K
          try simp only [Act.put, List.setIfInBounds_toArray, List.set_cons_zero, List.set_cons_succ]
          refine wpAnyH_ready (rs := [7]) (by kernel_rfl) (by simp) ?_
          refine AllReadyH.cons (o := { dst := some 77, op := Op.call { callee := Callee.builtin Builtin.append, args := #[Operand.tmp 71, Operand.tmp 76], argTypes := #[22, 22] }, type := 22, pos := "law.go:176", after := #[{ on := 1, ground := Ground.data }, { on := 6, ground := Ground.data }, { on := 1, ground := Ground.chain }], guard := none }) rfl (fun K hK => ?_) AllReadyH.nil
          clear hHeld
          obtain ⟨x1, x2, _, _⟩ := HT.out.cells
          have hsrc := two_src x1 x2
          obtain ⟨v9, w9, hrun, hO9, hB9, _⟩ := OwnT.addMany (h := curC' (endF k c ui) (endF k p pi)) (g := curC' (fun _ => ui) (fun _ => pi)) HOc.out ⟨T, 0, none⟩ 1 1 hsrc (curC'_one _ _) 22 (by have := HN.out; omega) HBv.out.size (fun q hq => by unfold curC' endF; rw [if_pos (show q / 2 < k by omega), if_pos (show q / 2 < k by omega)]) (fun q hq => by unfold curC' endF; rw [if_neg (show ¬ (k * 2 + q) / 2 < k by omega), if_neg (show ¬ (k * 2 + q) / 2 < k by omega), show (k * 2 + q) % 2 = q % 2 by omega])
          obtain ⟨g3, cp3, rfl, hcp3, hR3⟩ := OwnT.rt hO9 (Nat.succ_pos k)
          have HBz := Lib.hid (HBv.out.trans hB9)
          have HR3 := Lib.hid hR3
          have HC3 := Lib.hid hcp3
          have HRUN := Lib.hid hrun
          clear hO9 hB9 hrun hR3 hcp3 x1 x2 hsrc HT HOc HBv
          refine op_addCur (.tmp 71) (.tmp 76) rfl rfl rfl HRUN.out ?_
          clear HRUN
          go_simp
          refine hK.out _ _ (by exact True.intro) (fun hHeld => ?_)
          clear hK K
          try simp only [Act.put, List.setIfInBounds_toArray, List.set_cons_zero, List.set_cons_succ]
          refine wpAnyH_ready (rs := [8]) (by kernel_rfl) (by simp) ?_
          refine AllReadyH.cons (o := { dst := some 13, op := Op.assign (Operand.tmp 77), type := 22, pos := "law.go:176", after := #[{ on := 7, ground := Ground.data }, { on := 7, ground := Ground.chain }, { on := 0, ground := Ground.phase }, { on := 1, ground := Ground.phase }, { on := 2, ground := Ground.phase }, { on := 3, ground := Ground.phase }, { on := 4, ground := Ground.phase }, { on := 5, ground := Ground.phase }, { on := 6, ground := Ground.phase }, { on := 7, ground := Ground.phase }], guard := none }) rfl (fun K hK => ?_) AllReadyH.nil
          clear hHeld
          go_simp
          refine hK.out _ _ (by exact True.intro) (fun hHeld => ?_)
          clear hK K
          try simp only [Act.put, List.setIfInBounds_toArray, List.set_cons_zero, List.set_cons_succ]
          refine wpAnyH_done (by kernel_rfl) ?_ _
          clear hHeld
          have HBw := Lib.hid (HV.out.trans (HBz.out.mono HV.out.size))
          have HLf := Lib.hid (HLV.out.belowAt HBz.out (Nat.le_refl _))
          have hT2 := pTab w9 (some ⟨g3, 0, none⟩) (k + 1) cp3 HC3.out (endF k c ui) (endF k p pi) HR3.out (by rw [← HUI.out]; exact HFE.out)
          have he := tab_end HGD.out hin
          rw [HUI.out, HPI.out] at he
          clear HR3 HC3 HBz
          by_cases h16 : k < 16
          · rw [he, if_pos h16] at hT2
            clear he
            go_wp2_with fail
            refine Calls.mono hT2 ?_
            rintro _ wf ⟨rfl, hBf⟩
            have HBf := Lib.hid (HBw.out.trans (hBf.mono HBw.out.size))
            have HLg := Lib.hid (HLf.out.belowAt hBf (Nat.le_refl _))
            clear hBf
            go_wp2_with fail
            refine Calls.mono (pTab wf (some ⟨g1, 0, none⟩) (k - 1) cp1 (by have := HCP.out; omega) (delF c i) (delF p i) HLg.out HFD.out) ?_
            rintro _ wg ⟨hz5, hBg⟩
            rw [(HGD.out.del hin).zero] at hz5
            subst hz5
            have HBg := Lib.hid (HBf.out.trans (hBg.mono HBf.out.size))
            clear hBg
            go_wp2_with fail
            refine (HAW.out _ (HG.out.below HBg.out)).mono ?_
            rintro _ wh ⟨rfl, hBh⟩
            go_wp2_with fail
            go_ret
            exact ⟨rfl, HBg.out.trans (hBh.mono HBg.out.size)⟩
          · rw [he, if_neg h16] at hT2
            have hk16 : ((k : Int) == 16) = true := by rw [beq_iff_eq]; have := HN.out; omega
            clear he
            go_wp2_with fail
            refine Calls.mono hT2 ?_
            rintro _ wf ⟨rfl, hBf⟩
            have HBf := Lib.hid (HBw.out.trans (hBf.mono HBw.out.size))
            have HLg := Lib.hid (HLf.out.belowAt hBf (Nat.le_refl _))
            clear hBf
            go_wp2_with fail
            refine Calls.mono (pTab wf (some ⟨g1, 0, none⟩) (k - 1) cp1 (by have := HCP.out; omega) (delF c i) (delF p i) HLg.out HFD.out) ?_
            rintro _ wg ⟨hz5, hBg⟩
            rw [(HGD.out.del hin).zero] at hz5
            subst hz5
            have HBg := Lib.hid (HBf.out.trans (hBg.mono HBf.out.size))
            clear hBg
            go_wp2_with fail
            refine (HAW.out _ (HG.out.below HBg.out)).mono ?_
            rintro _ wh ⟨rfl, hBh⟩
            go_wp2_with fail
            go_ret
            exact ⟨rfl, HBg.out.trans (hBh.mono HBg.out.size)⟩
        · clear hHeld
          go_simp
          obtain ⟨T, hT⟩ : ∃ k, V.heap.size = k := ⟨_, rfl⟩
          obtain ⟨WB, hWB⟩ : ∃ W, W = World.alloc (V) (.cells #[.string ui, .int .i64 pi] 26) := ⟨_, rfl⟩
          try rw [← hWB]
          try rw [hT]
          have hT0 : TwoAt WB T 26 (.string ui) (.int .i64 pi) := by rw [hWB, ← hT]; exact TwoAt.made _ _ _ _
          have HT := Lib.hid (show TwoAt WB.drew T 26 (.string ui) (.int .i64 pi) from hT0)
          replace HBv := Lib.hid (show Below V.heap.size V WB.drew from below_drew (by rw [hWB]; exact (Below.refl _ _).alloc (Nat.le_refl _) _))
          clear hWB hT hT0
          refine hK.out _ _ (by exact True.intro) (fun hHeld => ?_)
          clear hK K
          try simp only [Act.put, List.setIfInBounds_toArray, List.set_cons_zero, List.set_cons_succ]
          refine wpAnyH_ready (rs := [1]) (by kernel_rfl) (by simp) ?_
          refine AllReadyH.cons (o := { dst := some 71, op := Op.call { callee := Callee.value (Operand.func 44), args := #[Operand.tmp 70], argTypes := #[22] }, type := 22, pos := "law.go:176", after := #[{ on := 0, ground := Ground.data }], guard := none }) rfl (fun K hK => ?_) AllReadyH.nil
          clear hHeld
          go_simp
          refine Calls.mono (pClone _ b o k (k + ca) c p (HX.out.belowAt (HV.out.trans (HBv.out.mono HV.out.size)) (Nat.le_refl _)) (by have := HN.out; omega) h0) ?_
          rintro _ wq ⟨g2, cp2, rfl, hO2, hB⟩
          have HOc := Lib.hid (OwnT.stay hO2 (Below.refl _ _) HBv.out.size)
          replace HT := Lib.hid (TwoAt.below6 HT.out hB)
          replace HBv := Lib.hid (HBv.out.trans (hB.mono HBv.out.size))
          clear hO2 hB
          go_wp2_with fail
          refine hK.out _ _ (by exact True.intro) (fun hHeld => ?_)
          clear hK K
          try simp only [Act.put, List.setIfInBounds_toArray, List.set_cons_zero, List.set_cons_succ]
          refine wpAnyH_ready (rs := [7]) (by kernel_rfl) (by simp) ?_
          refine AllReadyH.cons (o := { dst := some 77, op := Op.call { callee := Callee.builtin Builtin.append, args := #[Operand.tmp 71, Operand.tmp 76], argTypes := #[22, 22] }, type := 22, pos := "law.go:176", after := #[{ on := 1, ground := Ground.data }, { on := 6, ground := Ground.data }, { on := 1, ground := Ground.chain }], guard := none }) rfl (fun K hK => ?_) AllReadyH.nil
          clear hHeld
          obtain ⟨x1, x2, _, _⟩ := HT.out.cells
          have hsrc := two_src x1 x2
          obtain ⟨v9, w9, hrun, hO9, hB9, _⟩ := OwnT.addMany (h := curC' (endF k c ui) (endF k p pi)) (g := curC' (fun _ => ui) (fun _ => pi)) HOc.out ⟨T, 0, none⟩ 1 1 hsrc (curC'_one _ _) 22 (by have := HN.out; omega) HBv.out.size (fun q hq => by unfold curC' endF; rw [if_pos (show q / 2 < k by omega), if_pos (show q / 2 < k by omega)]) (fun q hq => by unfold curC' endF; rw [if_neg (show ¬ (k * 2 + q) / 2 < k by omega), if_neg (show ¬ (k * 2 + q) / 2 < k by omega), show (k * 2 + q) % 2 = q % 2 by omega])
          obtain ⟨g3, cp3, rfl, hcp3, hR3⟩ := OwnT.rt hO9 (Nat.succ_pos k)
          have HBz := Lib.hid (HBv.out.trans hB9)
          have HR3 := Lib.hid hR3
          have HC3 := Lib.hid hcp3
          have HRUN := Lib.hid hrun
          clear hO9 hB9 hrun hR3 hcp3 x1 x2 hsrc HT HOc HBv
          refine op_addCur (.tmp 71) (.tmp 76) rfl rfl rfl HRUN.out ?_
          clear HRUN
          go_simp
          refine hK.out _ _ (by exact True.intro) (fun hHeld => ?_)
          clear hK K
          try simp only [Act.put, List.setIfInBounds_toArray, List.set_cons_zero, List.set_cons_succ]
          refine wpAnyH_ready (rs := [8]) (by kernel_rfl) (by simp) ?_
          refine AllReadyH.cons (o := { dst := some 13, op := Op.assign (Operand.tmp 77), type := 22, pos := "law.go:176", after := #[{ on := 7, ground := Ground.data }, { on := 7, ground := Ground.chain }, { on := 0, ground := Ground.phase }, { on := 1, ground := Ground.phase }, { on := 2, ground := Ground.phase }, { on := 3, ground := Ground.phase }, { on := 4, ground := Ground.phase }, { on := 5, ground := Ground.phase }, { on := 6, ground := Ground.phase }, { on := 7, ground := Ground.phase }], guard := none }) rfl (fun K hK => ?_) AllReadyH.nil
          clear hHeld
          go_simp
          refine hK.out _ _ (by exact True.intro) (fun hHeld => ?_)
          clear hK K
          try simp only [Act.put, List.setIfInBounds_toArray, List.set_cons_zero, List.set_cons_succ]
          refine wpAnyH_done (by kernel_rfl) ?_ _
          clear hHeld
          have HBw := Lib.hid (HV.out.trans (HBz.out.mono HV.out.size))
          have HLf := Lib.hid (HLV.out.belowAt HBz.out (Nat.le_refl _))
          have hT2 := pTab w9 (some ⟨g3, 0, none⟩) (k + 1) cp3 HC3.out (endF k c ui) (endF k p pi) HR3.out (by rw [← HUI.out]; exact HFE.out)
          have he := tab_end HGD.out hin
          rw [HUI.out, HPI.out] at he
          clear HR3 HC3 HBz
          by_cases h16 : k < 16
          · rw [he, if_pos h16] at hT2
            clear he
            go_wp2_with fail
            refine Calls.mono hT2 ?_
            rintro _ wf ⟨rfl, hBf⟩
            have HBf := Lib.hid (HBw.out.trans (hBf.mono HBw.out.size))
            have HLg := Lib.hid (HLf.out.belowAt hBf (Nat.le_refl _))
            clear hBf
            go_wp2_with fail
            refine Calls.mono (pTab wf (some ⟨g1, 0, none⟩) (k - 1) cp1 (by have := HCP.out; omega) (delF c i) (delF p i) HLg.out HFD.out) ?_
            rintro _ wg ⟨hz5, hBg⟩
            rw [(HGD.out.del hin).zero] at hz5
            subst hz5
            have HBg := Lib.hid (HBf.out.trans (hBg.mono HBf.out.size))
            clear hBg
            go_wp2_with fail
            refine (HAW.out _ (HG.out.below HBg.out)).mono ?_
            rintro _ wh ⟨rfl, hBh⟩
            go_wp2_with fail
            go_ret
            exact ⟨rfl, HBg.out.trans (hBh.mono HBg.out.size)⟩
          · rw [he, if_neg h16] at hT2
            have hk16 : ((k : Int) == 16) = true := by rw [beq_iff_eq]; have := HN.out; omega
            clear he
            go_wp2_with fail
            refine Calls.mono hT2 ?_
            rintro _ wf ⟨rfl, hBf⟩
            have HBf := Lib.hid (HBw.out.trans (hBf.mono HBw.out.size))
            have HLg := Lib.hid (HLf.out.belowAt hBf (Nat.le_refl _))
            clear hBf
            go_wp2_with fail
            refine Calls.mono (pTab wf (some ⟨g1, 0, none⟩) (k - 1) cp1 (by have := HCP.out; omega) (delF c i) (delF p i) HLg.out HFD.out) ?_
            rintro _ wg ⟨hz5, hBg⟩
            rw [(HGD.out.del hin).zero] at hz5
            subst hz5
            have HBg := Lib.hid (HBf.out.trans (hBg.mono HBf.out.size))
            clear hBg
            go_wp2_with fail
            refine (HAW.out _ (HG.out.below HBg.out)).mono ?_
            rintro _ wh ⟨rfl, hBh⟩
            go_wp2_with fail
            go_ret
            exact ⟨rfl, HBg.out.trans (hBh.mono HBg.out.size)⟩

theorem amf_any (xa : Option Addr) (n ca : Nat) (c : Nat → ByteArray) (p : Nat → Int) (j : Int) (w : World) (hG : Ground w) (hx : Rt w xa n c p) (hn : n ≤ 9223372036854775807) (hca : n ≤ ca) (hj0 : 0 ≤ j) (hj1 : j ≤ 255) :
    Calls Tryz.prog 11 #[.slice xa n ca, .int .u8 j] w fun e w' => e = .returned (.bool true) ∧ Below w.heap.size w w' := by
  obtain ⟨ca, rfl⟩ : ∃ k, ca = n + k := ⟨ca - n, by omega⟩
  cases hg : greatTb n c with
  | true => exact amf_great xa n ca c p j w hG hx hn hg
  | false =>
    by_cases ht : tabE n c p = 0
    · by_cases h0 : n = 0
      · exact amf_nil xa n ca c p j w hG hx hn hg ht h0
      · exact amf_ok xa n ca c p j w hG hx hn hg ht (by omega) hj0 hj1
    · exact amf_bad xa n ca c p j w hG hx hn hg ht


end Go.Proofs.YtahnkmkmoalbhaaGreatDoor
