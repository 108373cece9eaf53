/- Layer 5: Concat, MoneyAmounts. -/
import Derived.Test.YtahnkmkmoalbhaaGreatDoorZAA
import Derived.Test.YtahnkmkmoalbhaaGreatDoorZAB
import Derived.Test.YtahnkmkmoalbhaaGreatDoorZAC
import Derived.Test.YtahnkmkmoalbhaaGreatDoorZAD
import Derived.Test.YtahnkmkmoalbhaaGreatDoorZAE
import Derived.Test.YtahnkmkmoalbhaaGreatDoorZAF
import Derived.Test.YtahnkmkmoalbhaaGreatDoorZAG
import Derived.Test.YtahnkmkmoalbhaaGreatDoorZAH
import Derived.Test.YtahnkmkmoalbhaaGreatDoorZAI
import Derived.Test.YtahnkmkmoalbhaaGreatDoorZAJ
import Derived.Test.YtahnkmkmoalbhaaGreatDoorZAK
import Derived.Test.YtahnkmkmoalbhaaGreatDoorZAL
import Derived.Test.YtahnkmkmoalbhaaGreatDoorZAM
import Derived.Test.YtahnkmkmoalbhaaGreatDoorZAN
import Derived.Test.YtahnkmkmoalbhaaGreatDoorZAO
import Derived.Test.YtahnkmkmoalbhaaGreatDoorZAP
import Derived.Laws.OwnMore
import Derived.Lib.AppendZeros
namespace Go.Proofs.YtahnkmkmoalbhaaGreatDoor
open Go.RowKit
theorem bagL_succ (n : Nat) (u : Nat → ByteArray) (x : Nat → Int) : bagL (n + 1) u x = bagL n u x ++ [(u n, x n)] := by
  unfold bagL
  rw [List.range_succ, List.map_append]
  rfl
/-- bags with the same amounts in the codes of both are the same -/
theorem bag_same {a b : Bag} (ha : Asc a) (na : NZ a) (hb : Asc b) (nb : NZ b) (h : ∀ p, p ∈ a ++ b → amt a p.1 = amt b p.1) : a = b :=
  bag_uniq ha na hb nb fun c => by
    by_cases h1 : ∃ p, p ∈ a ++ b ∧ p.1 = c
    · obtain ⟨p, hp, rfl⟩ := h1
      exact h p hp
    · rw [amt_before fun p hp e => h1 ⟨p, List.mem_append.2 (Or.inl hp), e⟩, amt_before fun p hp e => h1 ⟨p, List.mem_append.2 (Or.inr hp), e⟩]
/-- the amount that the program finds is the amount -/
theorem amt_at {n k : Nat} {u : Nat → ByteArray} {x : Nat → Int} {c : ByteArray} (hk : k < n) (he : u k = c) (h : ∀ i, i < k → u i ≠ c) : amt (bagL n u x) c = x k := by
  induction n generalizing k with
  | zero => omega
  | succ n ih =>
    have happ : ∀ (a : Bag) (q : ByteArray × Int), amt (a ++ [q]) c = if ∃ p, p ∈ a ∧ p.1 = c then amt a c else if q.1 = c then q.2 else 0 := fun a q => by
      induction a with
      | nil => simp [amt]
      | cons r a iha =>
        show amt (r :: (a ++ [q])) c = _
        rw [amt.eq_2, amt.eq_2]
        by_cases hr : r.1 = c
        · rw [if_pos hr, if_pos ⟨r, by simp, hr⟩, if_pos hr]
        · rw [if_neg hr, iha]
          by_cases hex : ∃ p, p ∈ a ∧ p.1 = c
          · obtain ⟨p, hp, e⟩ := hex
            rw [if_pos ⟨p, hp, e⟩, if_pos ⟨p, by simp [hp], e⟩, if_neg hr]
          · rw [if_neg hex, if_neg (show ¬ ∃ p, p ∈ r :: a ∧ p.1 = c by
              rintro ⟨p, hp, e⟩
              rcases List.mem_cons.1 hp with rfl | hp
              · exact hr e
              · exact hex ⟨p, hp, e⟩)]
    rw [bagL_succ, happ]
    by_cases e : k = n
    · subst e
      rw [if_neg, if_pos he]
      rintro ⟨p, hp, e⟩
      unfold bagL at hp
      obtain ⟨i, hi, rfl⟩ := List.mem_map.1 hp
      exact h i (List.mem_range.1 hi) e
    · have hkn : k < n := by omega
      rw [if_pos ⟨(u k, x k), List.mem_map.2 ⟨k, List.mem_range.2 hkn, rfl⟩, he⟩]
      exact ih hkn he h
theorem amt_none {n : Nat} {u : Nat → ByteArray} {x : Nat → Int} {c : ByteArray} (h : ∀ i, i < n → u i ≠ c) : amt (bagL n u x) c = 0 :=
  amt_before fun p hp e => by
    unfold bagL at hp
    obtain ⟨i, hi, rfl⟩ := List.mem_map.1 hp
    exact h i (List.mem_range.1 hi) e

set_option maxRecDepth 100000 in
set_option maxHeartbeats 8000000 in
theorem eqMoney_len (w : World) (xa ya : Option Addr) (n m cap cap' : Nat) (h : n ≠ m) :
    Calls Tryz.prog 28 #[.slice xa n cap, .slice ya m cap'] w fun e w' => e = .returned (.bool false) ∧ w = w' := by
  have hb : ((n : Int) != (m : Int)) = true := by rw [bne_iff_ne]; omega
  have hb2 : ((n : Int) == (m : Int)) = false := by rw [beq_eq_false_iff_ne]; omega
  go_enter Tryz.func28, Tryz.ntmps28
  go_wp2_with fail
  go_ret
  exact ⟨rfl, rfl⟩
end Go.Proofs.YtahnkmkmoalbhaaGreatDoor
namespace Go.Proofs.YtahnkmkmoalbhaaGreatDoor
open Go.RowKit

/-- u, and behind n: s -/
def catF {α : Type} (n : Nat) (u s : Nat → α) (k : Nat) : α := if k < n then u k else s (k - n)
theorem append_zero {w : World} {base : Nat} {v : Value} {n : Nat} {u z : Nat → ByteArray} (h : OwnM w base v n u z) (ya : Option Addr) (cb : Nat) (ty : TypeId) :
    (Builtin.append_ #[32, 32] ty #[v, .slice ya 0 cb]).run Tryz.prog w = .ok v w := by
  obtain ⟨i0, hi, hz0, hz1, hz2⟩ := info_parts info_Money
  rcases h.2 with ⟨rfl, rfl⟩ | ⟨g, cap, cur, rfl, _, _, hnc, _⟩
  · cases ya
    · simp [Builtin.append_, run_underlying Tryz.underlying32, sizeOf, typeInfo, hi, Builtin.lenOf, Builtin.firstCells]
    · simp [Builtin.append_, run_underlying Tryz.underlying32, sizeOf, typeInfo, hi, Builtin.lenOf, Builtin.firstCells, loadCells, loadCellsFrom]
  · cases ya
    · simp [Builtin.append_, run_underlying Tryz.underlying32, sizeOf, typeInfo, hi, Builtin.lenOf, Builtin.firstCells, hnc, storeCells]
    · simp [Builtin.append_, run_underlying Tryz.underlying32, sizeOf, typeInfo, hi, Builtin.lenOf, Builtin.firstCells, loadCells, loadCellsFrom, hnc, storeCells]
set_option maxRecDepth 100000 in
theorem OwnM.addMany {w : World} {base : Nat} {v : Value} {k : Nat} {u z : Nat → ByteArray} (hO : OwnM w base v k u z) (ya : Option Addr) (n cap : Nat) (s t : Nat → ByteArray) (hr : Rf w ya n s t) (ty : TypeId) (hs : k + n ≤ 1000000) (hb : base ≤ w.heap.size) :
    ∃ v' w', (Builtin.append_ #[32, 32] ty #[v, .slice ya n cap]).run Tryz.prog w = .ok v' w' ∧ OwnM w' base v' (k + n) (catF k u s) (catF k z t) ∧ Below base w w' := by
  by_cases h0 : n = 0
  · subst h0
    exact ⟨v, w, append_zero hO ya cap ty, OwnM.congr (n := k) hO fun i hi => (⟨if_pos hi, if_pos hi⟩ : catF k u s i = u i ∧ catF k z t i = z i), Below.refl _ _⟩
  obtain ⟨b, o, rfl, hlt, hcell⟩ := hr.sl (by omega)
  obtain ⟨i0, hi, hz0, hz1, hz2⟩ := info_parts info_Money
  obtain ⟨v', w', r1, r2, r3, _⟩ := run_append_own (P := Tryz.prog) w base 32 ty 35 i0 (.agg #[.string ⟨#[]⟩, .string ⟨#[]⟩]) 2 32 Tryz.underlying32 hi hz0 hz1 hz2 rfl (by decide) v k _ hO ⟨b, o, none⟩ n cap ((List.range (n * 2)).map fun i => .string (if i % 2 = 0 then s (i / 2) else t (i / 2))) (by simp)
    (fun j y hj => by
      rw [List.getElem?_map] at hj
      obtain ⟨x, hx1, rfl⟩ := Option.map_eq_some_iff.1 hj
      obtain ⟨hx2, hx3⟩ := List.getElem?_eq_some_iff.1 hx1
      simp at hx3
      subst hx3
      rw [show (⟨b, o, none⟩ : Addr).add j = ⟨b, o + j, none⟩ by unfold Addr.add; split <;> simp_all]
      exact hcell _ (by simpa using hx2))
    (fun y hy => by obtain ⟨x, _, rfl⟩ := List.mem_map.1 hy; rfl) (by unfold maxLen; omega) (by omega) hb
  refine ⟨v', w', r1, ?_, (Below.refl base w).grown r3 hb (fun j hj => (World.ownsRow.lt hO j hj).1)⟩
  unfold OwnM OwnC
  have : (List.range ((k + n) * 2)).map (fun i => Value.string (if i % 2 = 0 then catF k u s (i / 2) else catF k z t (i / 2))) = (List.range (k * 2)).map (fun i => Value.string (if i % 2 = 0 then u (i / 2) else z (i / 2))) ++ (List.range (n * 2)).map (fun i => Value.string (if i % 2 = 0 then s (i / 2) else t (i / 2))) := by
    rw [Nat.add_mul, List.range_add, List.map_append, List.map_map]
    congr 1
    · refine List.map_congr_left fun i hi => ?_
      have := List.mem_range.1 hi
      unfold catF
      rw [if_pos (show i / 2 < k by omega), if_pos (show i / 2 < k by omega)]
    · refine List.map_congr_left fun i hi => ?_
      show Value.string (if (k * 2 + i) % 2 = 0 then catF k u s ((k * 2 + i) / 2) else catF k z t ((k * 2 + i) / 2)) = _
      unfold catF
      rw [if_neg (show ¬ (k * 2 + i) / 2 < k by omega), if_neg (show ¬ (k * 2 + i) / 2 < k by omega), show (k * 2 + i) % 2 = i % 2 by omega, show (k * 2 + i) / 2 - k = i / 2 by omega]
  rw [this]
  exact r2

theorem wp_addMoneys {w : World} {ops : Array Oper} {rest : List Oper} {o : Oper} {a : Act} {Q : Exit → Act → World → Prop} (hgd : o.guard = none) (sl x : Operand)
    (ho : o.op = .call { callee := .builtin .append, args := #[sl, x], argTypes := #[32, 32] })
    (v y v' : Value) (w' : World) (hs : a.eval sl = v) (hx : a.eval x = y) (hr : (Builtin.append_ #[32, 32] o.type #[v, y]).run Tryz.prog w = .ok v' w')
    (hK : wpList Tryz.prog ops Q rest (a.put o.dst v') w') : wpList Tryz.prog ops Q (o :: rest) a w := by
  refine wpList_plain hgd fun K hK' => ?_
  exact op_addMoney sl x ho hs hx hr (hK' _ _ hK)
set_option maxRecDepth 100000 in
set_option maxHeartbeats 4000000 in
theorem pGrow (w : World) (n : Nat) (hn : n ≤ 1000) :
    Calls Tryz.prog 71 #[.slice none 0 0, .int .i64 (n : Int)] w fun e w' => ∃ v, e = .returned v ∧ OwnM w' w.heap.size v 0 (fun _ => ⟨#[]⟩) (fun _ => ⟨#[]⟩) ∧ Below w.heap.size w w' := by
  have hw0 : IntKind.i64.wrap ((n : Int) - 0) = (n : Int) := by rw [Int.sub_zero]; exact IntWalk.i64_in _ (by omega)
  by_cases h0 : n = 0
  · have hi : ¬ (0 : Int) < (n : Int) := by omega
    have hi2 : ¬ (n : Int) < 0 := by omega
    have HE := Lib.hid (show OwnM w w.heap.size (.slice none 0 0) 0 (fun _ => ⟨#[]⟩) (fun _ => ⟨#[]⟩) from OwnC.nil _ _ _ _ _)
    clear h0
    go_enter Tryz.func71, Tryz.ntmps71
    go_wp2
    go_ret
    exact ⟨_, rfl, HE.out, Below.refl _ _⟩
  · have hi : (0 : Int) < (n : Int) := by omega
    have hi2 : ¬ (n : Int) < 0 := by omega
    obtain ⟨i0, hif, hz0, hz1, hz2⟩ := info_parts info_Money
    have happ := Lib.run_append_nil_zeros (P := Tryz.prog) w 32 3 32 35 i0 (.agg #[.string ⟨#[]⟩, .string ⟨#[]⟩]) .i64 .i64 Tryz.underlying32 Tryz.underlying3 hif hz0 n (by omega) (by omega) (by omega) (by rw [hz2]; omega)
    generalize hcap : grownCap w n 0 35 = cap2 at happ
    have hcapge : n ≤ cap2 := by rw [← hcap]; exact grownCap_ge w _ 0 35
    have hcaple : cap2 ≤ maxLen := by rw [← hcap]; exact grownCap_le_maxLen w _ 0 35 (by unfold maxLen; omega)
    generalize hZ : (Builtin.zeroCells (Value.agg #[.string ⟨#[]⟩, .string ⟨#[]⟩]).cells n ++ Builtin.zeroCells (Value.agg #[.string ⟨#[]⟩, .string ⟨#[]⟩]).cells (cap2 - n)) = Z at happ
    have hZs : Z.size = cap2 * 2 := by rw [← hZ]; simp [size_zeroCells, Value.cells]; omega
    obtain ⟨W1, hW1⟩ : ∃ W, W = w.drew.alloc (.cells Z 35) := ⟨_, rfl⟩
    rw [← hW1] at happ
    have HO := Lib.hid (show OwnM W1 w.heap.size (.slice (some ⟨w.heap.size, 0, none⟩) 0 cap2) 0 (fun _ => ⟨#[]⟩) (fun _ => ⟨#[]⟩) from by
      rw [hW1]; exact World.ownsRow_made w.drew Z cap2 (Nat.le_refl _) hcaple hZs)
    have HB := Lib.hid (show Below w.heap.size w W1 by rw [hW1]; exact (below_drew (Below.refl _ _)).alloc (Nat.le_refl _) _)
    have HAPP := Lib.hid happ
    clear hcap hZ hZs happ hW1 h0 hif hz0 hz1 hz2 hcaple
    go_enter Tryz.func71, Tryz.ntmps71
    go_wp2_with (at_builtin; refine Lib.wpList_append_run _ rfl _ _ _ _ rfl _ _ rfl rfl _ _ HAPP.out ?_)
    go_ret
    exact ⟨_, rfl, HO.out, HB.out⟩

set_option maxRecDepth 100000 in
set_option maxHeartbeats 4000000 in
theorem pConcat (w : World) (q n m ca cb : Nat) (xa ya : Option Addr) (u v s t : Nat → ByteArray) (h0 : w.cell? ⟨q, 0, none⟩ = some (.slice xa n (n + ca))) (h1 : w.cell? ⟨q, 1, none⟩ = some (.slice ya m (m + cb))) (hx : Rf w xa n u v) (hy : Rf w ya m s t) (hn : n ≤ 100) (hm : m ≤ 100) :
    Calls Tryz.prog 36 #[.slice (some ⟨q, 0, none⟩) 2 2] w fun e w' => ∃ za cz, e = .returned (.slice za (n + m) (n + m + cz)) ∧ Rf w' za (n + m) (catF n u s) (catF n v t) ∧ Below w.heap.size w w' := by
  have HX := Lib.hid hx
  have HY := Lib.hid hy
  have hs0 : IntKind.i64.wrap (0 + (n : Int)) = (n : Int) := by rw [Int.zero_add]; exact IntWalk.i64_in _ (by omega)
  have hs1 : IntKind.i64.wrap ((n : Int) + (m : Int)) = (n : Int) + (m : Int) := IntWalk.i64_in _ (by omega)
  have hs2 : ¬ (n : Int) < 0 := by omega
  have hs3 : ¬ (n : Int) + (m : Int) < 0 := by omega
  have hq := World.block_lt_of_cell? w ⟨q, 0, none⟩ h0
  clear hx hy
  go_enter Tryz.func36, Tryz.ntmps36
  go_wp2_with fail
  go_loopw [3, 11] (fun sv iv wr => wr = w ∧ ((iv = .int .i64 0 ∧ sv = .int .i64 0) ∨ (iv = .int .i64 1 ∧ sv = .int .i64 (n : Int)) ∨ (iv = .int .i64 2 ∧ sv = .int .i64 ((n : Int) + (m : Int))))) (fun _ iv _ => 2 - (intOf iv).toNat)
  case atStart => exact ⟨rfl, Or.inl ⟨rfl, rfl⟩⟩
  case round =>
    obtain ⟨rfl, ⟨rfl, rfl⟩ | ⟨rfl, rfl⟩ | ⟨rfl, rfl⟩⟩ := hrel
    · go_wp2_with fail
      go_roundw
      case rel => exact ⟨trivial, Or.inr (Or.inl ⟨rfl, rfl⟩)⟩
      case measure => simp [intOf]
    · go_wp2_with fail
      go_roundw
      case rel => exact ⟨trivial, Or.inr (Or.inr ⟨rfl, rfl⟩)⟩
      case measure => simp [intOf]
    · go_wp2_with fail
      have hg := pGrow wr (n + m) (by omega)
      rw [show ((n + m : Nat) : Int) = (n : Int) + (m : Int) by omega] at hg
      refine Calls.mono hg ?_
      rintro _ wg ⟨v0, rfl, hO, hB⟩
      have HO := Lib.hid hO
      have HB := Lib.hid hB
      have z0 := (hB.cell (p := ⟨q, 0, none⟩) hq).trans h0
      have z1 := (hB.cell (p := ⟨q, 1, none⟩) hq).trans h1
      clear hg hO hB
      go_wp2_with fail
      go_loopw [6, 27] (fun ov iv wq => (iv = .int .i64 0 ∧ ov = v0 ∧ wq = wg) ∨ (iv = .int .i64 1 ∧ Hid (OwnM wq wr.heap.size ov n u v) ∧ Hid (Below wr.heap.size wr wq)) ∨ (iv = .int .i64 2 ∧ Hid (OwnM wq wr.heap.size ov (n + m) (catF n u s) (catF n v t)) ∧ Hid (Below wr.heap.size wr wq))) (fun _ iv _ => 2 - (intOf iv).toNat)
      case atStart => exact Or.inl ⟨rfl, rfl, rfl⟩
      case round =>
        rcases hrel with ⟨rfl, rfl, rfl⟩ | ⟨rfl, HO1, HB1⟩ | ⟨rfl, HO1, HB1⟩
        · obtain ⟨v9, w9, hrun, hO9, hB9⟩ := OwnM.addMany HO.out xa n (n + ca) u v (HX.out.belowAt HB.out (Nat.le_refl _)) 32 (by omega) HB.out.size
          rw [Nat.zero_add] at hO9
          have HR := Lib.hid hrun
          have HO9 := Lib.hid (OwnM.congr hO9 fun i _ => (⟨rfl, rfl⟩ : u i = catF 0 _ u i ∧ v i = catF 0 _ v i))
          have HB9 := Lib.hid (HB.out.trans hB9)
          clear hrun hO9 hB9
          go_wp2_with (at_builtin; refine wp_addMoneys rfl _ _ rfl _ _ _ _ rfl rfl HR.out ?_)
          go_roundw
          case rel => exact Or.inr (Or.inl ⟨rfl, HO9, HB9⟩)
          case measure => simp [intOf]
        · obtain ⟨v9, w9, hrun, hO9, hB9⟩ := OwnM.addMany HO1.out ya m (m + cb) s t (HY.out.belowAt HB1.out (Nat.le_refl _)) 32 (by omega) HB1.out.size
          have HR := Lib.hid hrun
          have HO9 := Lib.hid hO9
          have HB9 := Lib.hid (HB1.out.trans hB9)
          have k1 := (HB1.out.cell (p := ⟨q, 1, none⟩) hq).trans h1
          clear hrun hO9 hB9
          go_wp2_with (at_builtin; refine wp_addMoneys rfl _ _ rfl _ _ _ _ rfl rfl HR.out ?_)
          go_roundw
          case rel => exact Or.inr (Or.inr ⟨rfl, HO9, HB9⟩)
          case measure => simp [intOf]
        · obtain ⟨za, cz, rfl, hR, hc, _⟩ := OwnC.rc HO1.out
          have HR := Lib.hid hR
          have HC := Lib.hid hc
          clear hR hc
          go_wp2_with fail
          go_ret
          exact ⟨za, cz - (n + m), by rw [show n + m + (cz - (n + m)) = cz by have := HC.out; omega]; rfl, HR.out, HB1.out⟩


end Go.Proofs.YtahnkmkmoalbhaaGreatDoor

namespace Go.Proofs.YtahnkmkmoalbhaaGreatDoor
open Go.RowKit

theorem amtS_bag (b : Bag) (c : ByteArray) : amtS b.length (atU b) (fun i => cS (atX b i)) c = cS (amt b c) := by
  have hbl : bagL b.length (atU b) (atX b) = b := bagL_of b
  by_cases h : ∀ i, i < b.length → atU b i ≠ c
  · have h2 := amt_none (x := atX b) h
    rw [hbl] at h2
    rw [amtS_none h, h2, cS_zero]
  · obtain ⟨k, hk, he, hl⟩ : ∃ k, k < b.length ∧ atU b k = c ∧ ∀ i, i < k → atU b i ≠ c := by
      have hex : ∃ k, k < b.length ∧ atU b k = c := by
        refine Classical.byContradiction fun hne => h fun i hi e => hne ⟨i, hi, e⟩
      clear h
      obtain ⟨k, hk, he⟩ := hex
      induction k using Nat.strongRecOn with
      | ind k ih =>
        by_cases h2 : ∃ i, i < k ∧ atU b i = c
        · obtain ⟨i, hi, e⟩ := h2
          exact ih i hi (by omega) e
        · exact ⟨k, hk, he, fun i hi e => h2 ⟨i, hi, e⟩⟩
    have h2 := amt_at (x := atX b) hk he hl
    rw [hbl] at h2
    rw [amtS_at hk he hl, h2]
theorem amtB {b : Bag} (hb : OkB b) (hc : CapB (10 ^ 18) b) (c : ByteArray) (W : World) (xa : Option Addr) (cap : Nat) (hG : Ground W) (hx : RB W xa b) :
    Calls Tryz.prog 26 #[.slice xa b.length cap, .string c] W fun e w' => e = .returned (.string (cS (amt b c))) ∧ Below W.heap.size W w' := by
  have := p_amt c (hb.shrt hc) W xa cap hG hx
  rw [amtS_bag] at this
  exact this
theorem amt_cap {M : Nat} {b : Bag} (h : CapB M b) (c : ByteArray) : (amt b c).natAbs ≤ M := by
  induction b with
  | nil => exact Nat.zero_le _
  | cons p r ih =>
    unfold amt
    split
    · exact h p (by simp)
    · exact ih fun q hq => h q (by simp [hq])
/-- two bags have the same amount of each of the first k codes of a row -/
def sameTo (A B : Bag) (f : Nat → ByteArray) (k : Nat) : Bool := (List.range k).all fun i => decide (amt A (f i) = amt B (f i))
theorem sameTo_next (A B : Bag) (f : Nat → ByteArray) (k : Nat) : sameTo A B f (k + 1) = (sameTo A B f k && decide (amt A (f k) = amt B (f k))) := by
  unfold sameTo; rw [List.range_succ, List.all_append]; simp
theorem sameTo_bags {A B : Bag} (ha : OkB A) (hb : OkB B) : sameTo A B (catF A.length (atU A) (atU B)) (A.length + B.length) = decide (A = B) := by
  rw [Bool.eq_iff_iff, decide_eq_true_iff]
  unfold sameTo
  rw [List.all_eq_true]
  constructor
  · intro h
    refine bag_same ha.asc ha.nz hb.asc hb.nz fun p hp => ?_
    obtain ⟨i, hi, e⟩ : ∃ i, i < A.length + B.length ∧ catF A.length (atU A) (atU B) i = p.1 := by
      rcases List.mem_append.1 hp with hp | hp
      · obtain ⟨i, hi⟩ := List.mem_iff_getElem?.1 hp
        have hl := (List.getElem?_eq_some_iff.1 hi).1
        rw [at_some hl] at hi
        injection hi with hi
        exact ⟨i, by omega, by unfold catF; rw [if_pos hl, ← hi]⟩
      · obtain ⟨i, hi⟩ := List.mem_iff_getElem?.1 hp
        have hl := (List.getElem?_eq_some_iff.1 hi).1
        rw [at_some hl] at hi
        injection hi with hi
        exact ⟨A.length + i, by omega, by unfold catF; rw [if_neg (by omega), show A.length + i - A.length = i by omega, ← hi]⟩
    have := of_decide_eq_true (h i (List.mem_range.2 hi))
    rw [e] at this
    exact this
  · rintro rfl i _
    exact decide_eq_true rfl
theorem eqBags (A B : Bag) (ha : A.length ≤ 100) (W : World) (xa ya : Option Addr) (c d : Nat) (hx : RB W xa A) (hy : RB W ya B) :
    Calls Tryz.prog 28 #[.slice xa A.length c, .slice ya B.length d] W fun e w' => e = .returned (.bool (decide (A = B))) ∧ Below W.heap.size W w' := by
  by_cases hl : A.length = B.length
  · rw [← hl]
    refine (eqMoney W xa ya A.length c d (atU A) (fun i => cS (atX A i)) (atU B) (fun i => cS (atX B i)) hx (by rw [hl]; exact hy) (by omega)).mono ?_
    rintro _ _ ⟨rfl, q, rfl⟩
    refine ⟨?_, below_drewN (Below.refl _ _) q⟩
    have : sameM A.length (atU A) (fun i => cS (atX A i)) (atU B) (fun i => cS (atX B i)) = decide (A = B) := by
      unfold sameM
      rw [Bool.eq_iff_iff, decide_eq_true_iff, decide_eq_true_iff]
      constructor
      · intro h
        rw [← bagL_of A, ← bagL_of B, ← hl]
        unfold bagL
        refine List.map_congr_left fun i hi => ?_
        have := h i (List.mem_range.1 hi)
        rw [this.1, cS_inj this.2]
      · rintro rfl i _
        exact ⟨rfl, rfl⟩
    rw [this]
  · refine (eqMoney_len W xa ya A.length B.length c d hl).mono ?_
    rintro _ _ ⟨rfl, rfl⟩
    exact ⟨by rw [show decide (A = B) = false from decide_eq_false fun e => hl (by rw [e])], Below.refl _ _⟩

set_option maxRecDepth 100000 in
set_option maxHeartbeats 8000000 in
theorem ama_great (xa ya : Option Addr) (n m ca cb : Nat) (u v s t : Nat → ByteArray) (code : ByteArray) (w : World) (hG : Ground w) (hx : Rf w xa n u v) (hy : Rf w ya m s t) (hn : n ≤ 9223372036854775807) (hm : m ≤ 9223372036854775807) (hg : (greatB n u v || greatB m s t) = true) :
    Calls Tryz.prog 8 #[.slice xa n (n + ca), .slice ya m (m + cb), .string code] w (ValP (.bool true) w) := by
  have HGR := Lib.hid (great_two (ca := n + ca) (cb := m + cb) hx hy hn hm)
  rw [hg] at HGR
  have HAW := Lib.hid mawake
  have HG := Lib.hid hG
  unfold ValP at HAW ⊢
  clear hx hy hn hm hg hG
  go_enter Tryz.func8, Tryz.ntmps8
  go_wp2_with fail
  refine HGR.out.mono ?_
  rintro _ w1 ⟨rfl, hb⟩
  go_wp2_with fail
  refine (HAW.out _ (HG.out.below hb)).mono ?_
  rintro _ w2 ⟨rfl, hB⟩
  go_wp2_with fail
  go_ret
  exact ⟨rfl, hb.trans (hB.mono hb.size)⟩

set_option maxRecDepth 100000 in
set_option maxHeartbeats 8000000 in
theorem ama_len1 (xa ya : Option Addr) (n m ca cb : Nat) (u v s t : Nat → ByteArray) (code : ByteArray) (w : World) (hG : Ground w) (hx : Rf w xa n u v) (hy : Rf w ya m s t) (hn : n ≤ 9223372036854775807) (hm : m ≤ 9223372036854775807) (hg : (greatB n u v || greatB m s t) = false) (hl : 6 < n) :
    Calls Tryz.prog 8 #[.slice xa n (n + ca), .slice ya m (m + cb), .string code] w (ValP (.bool true) w) := by
  have HGR := Lib.hid (great_two (ca := n + ca) (cb := m + cb) hx hy hn hm)
  rw [hg] at HGR
  have HAW := Lib.hid mawake
  have HG := Lib.hid hG
  have hi : (6 : Int) < (n : Int) := by omega
  unfold ValP at HAW ⊢
  clear hx hy hn hm hg hG hl
  go_enter Tryz.func8, Tryz.ntmps8
  go_wp2_with fail
  refine HGR.out.mono ?_
  rintro _ w1 ⟨rfl, hb⟩
  go_wp2_with fail
  refine (HAW.out _ (HG.out.below hb)).mono ?_
  rintro _ w2 ⟨rfl, hB⟩
  go_wp2_with fail
  go_ret
  exact ⟨rfl, hb.trans (hB.mono hb.size)⟩

set_option maxRecDepth 100000 in
set_option maxHeartbeats 8000000 in
theorem ama_len2 (xa ya : Option Addr) (n m ca cb : Nat) (u v s t : Nat → ByteArray) (code : ByteArray) (w : World) (hG : Ground w) (hx : Rf w xa n u v) (hy : Rf w ya m s t) (hn : n ≤ 9223372036854775807) (hm : m ≤ 9223372036854775807) (hg : (greatB n u v || greatB m s t) = false) (hl1 : n ≤ 6) (hl : 6 < m) :
    Calls Tryz.prog 8 #[.slice xa n (n + ca), .slice ya m (m + cb), .string code] w (ValP (.bool true) w) := by
  have HGR := Lib.hid (great_two (ca := n + ca) (cb := m + cb) hx hy hn hm)
  rw [hg] at HGR
  have HAW := Lib.hid mawake
  have HG := Lib.hid hG
  have hi : (6 : Int) < (m : Int) := by omega
  have hi1 : ¬ (6 : Int) < (n : Int) := by omega
  unfold ValP at HAW ⊢
  clear hx hy hn hm hg hG hl hl1
  go_enter Tryz.func8, Tryz.ntmps8
  go_wp2_with fail
  refine HGR.out.mono ?_
  rintro _ w1 ⟨rfl, hb⟩
  go_wp2_with fail
  refine (HAW.out _ (HG.out.below hb)).mono ?_
  rintro _ w2 ⟨rfl, hB⟩
  go_wp2_with fail
  go_ret
  exact ⟨rfl, hb.trans (hB.mono hb.size)⟩

set_option maxRecDepth 100000 in
set_option maxHeartbeats 8000000 in
theorem ama_bad1 (xa ya : Option Addr) (n m ca cb : Nat) (u v s t : Nat → ByteArray) (code : ByteArray) (w : World) (hG : Ground w) (hx : Rf w xa n u v) (hy : Rf w ya m s t) (hn : n ≤ 9223372036854775807) (hm : m ≤ 9223372036854775807) (hg : (greatB n u v || greatB m s t) = false) (hl : n ≤ 6) (hl2 : m ≤ 6) (h1 : bagE isCan n u v ≠ 0) :
    Calls Tryz.prog 8 #[.slice xa n (n + ca), .slice ya m (m + cb), .string code] w (ValP (.bool true) w) := by
  have HGR := Lib.hid (great_two (ca := n + ca) (cb := m + cb) hx hy hn hm)
  rw [hg] at HGR
  have HAW := Lib.hid mawake
  have HG := Lib.hid hG
  have hg1 := hg
  rw [Bool.or_eq_false_iff] at hg1
  have hsa := shrt_of hg1.1
  have hsb := shrt_of hg1.2
  have hi1 : ¬ (6 : Int) < (n : Int) := by omega
  have hi2 : ¬ (6 : Int) < (m : Int) := by omega
  have C1 := Lib.hid (p_chk hsa)
  have C2 := Lib.hid (p_chk hsb)
  have HX := Lib.hid hx
  have HY := Lib.hid hy
  unfold On1 ValP at C1 C2
  obtain ⟨d, hd⟩ : ∃ d, bagE isCan n u v = d := ⟨_, rfl⟩
  rw [hd] at C1
  have hdb : (d != 0) = true := by rw [bne_iff_ne, ← hd]; exact h1
  clear hd h1
  unfold ValP at HAW ⊢
  clear hx hy hn hm hg hg1 hG hsa hsb hl hl2
  go_enter Tryz.func8, Tryz.ntmps8
  go_wp2_with fail
  refine HGR.out.mono ?_
  rintro _ w1 ⟨rfl, hb⟩
  go_wp2_with fail
  refine Calls.mono (C1.out _ _ _ (HG.out.below hb) (HX.out.belowAt hb (Nat.le_refl _))) ?_
  rintro _ _ ⟨rfl, hB⟩
  replace hb := hb.trans (hB.mono hb.size)
  clear hB
  go_wp2_with fail
  refine (HAW.out _ (HG.out.below hb)).mono ?_
  rintro _ w2 ⟨rfl, hB⟩
  go_wp2_with fail
  go_ret
  exact ⟨rfl, hb.trans (hB.mono hb.size)⟩

set_option maxRecDepth 100000 in
set_option maxHeartbeats 8000000 in
theorem ama_bad2 (xa ya : Option Addr) (n m ca cb : Nat) (u v s t : Nat → ByteArray) (code : ByteArray) (w : World) (hG : Ground w) (hx : Rf w xa n u v) (hy : Rf w ya m s t) (hn : n ≤ 9223372036854775807) (hm : m ≤ 9223372036854775807) (hg : (greatB n u v || greatB m s t) = false) (hl : n ≤ 6) (hl2 : m ≤ 6) (h1 : bagE isCan n u v = 0) (h2 : bagE isCan m s t ≠ 0) :
    Calls Tryz.prog 8 #[.slice xa n (n + ca), .slice ya m (m + cb), .string code] w (ValP (.bool true) w) := by
  have HGR := Lib.hid (great_two (ca := n + ca) (cb := m + cb) hx hy hn hm)
  rw [hg] at HGR
  have HAW := Lib.hid mawake
  have HG := Lib.hid hG
  have hg1 := hg
  rw [Bool.or_eq_false_iff] at hg1
  have hsa := shrt_of hg1.1
  have hsb := shrt_of hg1.2
  have hi1 : ¬ (6 : Int) < (n : Int) := by omega
  have hi2 : ¬ (6 : Int) < (m : Int) := by omega
  have C1 := Lib.hid (p_chk hsa)
  have C2 := Lib.hid (p_chk hsb)
  have HX := Lib.hid hx
  have HY := Lib.hid hy
  unfold On1 ValP at C1 C2
  rw [h1] at C1
  obtain ⟨d, hd⟩ : ∃ d, bagE isCan m s t = d := ⟨_, rfl⟩
  rw [hd] at C2
  have hdb : (d != 0) = true := by rw [bne_iff_ne, ← hd]; exact h2
  clear hd h1 h2
  unfold ValP at HAW ⊢
  clear hx hy hn hm hg hg1 hG hsa hsb hl hl2
  go_enter Tryz.func8, Tryz.ntmps8
  go_wp2_with fail
  refine HGR.out.mono ?_
  rintro _ w1 ⟨rfl, hb⟩
  go_wp2_with fail
  refine Calls.mono (C1.out _ _ _ (HG.out.below hb) (HX.out.belowAt hb (Nat.le_refl _))) ?_
  rintro _ _ ⟨rfl, hB⟩
  replace hb := hb.trans (hB.mono hb.size)
  clear hB
  go_wp2_with fail
  refine Calls.mono (C2.out _ _ _ (HG.out.below hb) (HY.out.belowAt hb (Nat.le_refl _))) ?_
  rintro _ _ ⟨rfl, hB⟩
  replace hb := hb.trans (hB.mono hb.size)
  clear hB
  go_wp2_with fail
  refine (HAW.out _ (HG.out.below hb)).mono ?_
  rintro _ w2 ⟨rfl, hB⟩
  go_wp2_with fail
  go_ret
  exact ⟨rfl, hb.trans (hB.mono hb.size)⟩

set_option maxRecDepth 100000 in
set_option maxHeartbeats 8000000 in
theorem ama_ok (xa ya : Option Addr) (n m ca cb : Nat) (u v s t : Nat → ByteArray) (code : ByteArray) (w : World) (hG : Ground w) (hx : Rf w xa n u v) (hy : Rf w ya m s t) (hn : n ≤ 9223372036854775807) (hm : m ≤ 9223372036854775807) (hg : (greatB n u v || greatB m s t) = false) (hl : n ≤ 6) (hl2 : m ≤ 6) (h1 : bagE isCan n u v = 0) (h2 : bagE isCan m s t = 0) :
    Calls Tryz.prog 8 #[.slice xa n (n + ca), .slice ya m (m + cb), .string code] w (ValP (.bool true) w) := by
  have HGR := Lib.hid (great_two (ca := n + ca) (cb := m + cb) hx hy hn hm)
  rw [hg] at HGR
  have HAW := Lib.hid mawake
  have HG := Lib.hid hG
  have hg1 := hg
  rw [Bool.or_eq_false_iff] at hg1
  have hsa := shrt_of hg1.1
  have hsb := shrt_of hg1.2
  have hi1 : ¬ (6 : Int) < (n : Int) := by omega
  have hi2 : ¬ (6 : Int) < (m : Int) := by omega
  have C1 := Lib.hid (p_chk hsa)
  have C2 := Lib.hid (p_chk hsb)
  have HX := Lib.hid hx
  have HX0 := HX
  have HY := Lib.hid hy
  have HY0 := HY
  unfold On1 ValP at C1 C2
  rw [h1] at C1
  rw [h2] at C2
  obtain ⟨A, hA⟩ : ∃ A, rowB n u v = A := ⟨_, rfl⟩
  obtain ⟨B, hB⟩ : ∃ B, rowB m s t = B := ⟨_, rfl⟩
  have oa := okB_of h1
  have ob := okB_of h2
  have pa := capB_of hg1.1
  have pb := capB_of hg1.2
  have ra := good_rb (bagE_zero h1) hx
  have rb := good_rb (bagE_zero h2) hy
  have la : (rowB n u v).length = n := bagL_len _ _ _
  have lb : (rowB m s t).length = m := bagL_len _ _ _
  rw [hA] at oa pa ra la
  rw [hB] at ob pb rb lb
  subst la
  subst lb
  have lx := addB_len A B
  have ox := okB_add oa ob (by omega)
  have px := capB_add pa pb ob.few
  have hcap : (17 : Nat) * 10 ^ 13 ≤ 10 ^ 18 := by decide
  have hcap2 : (10 : Nat) ^ 13 ≤ 10 ^ 18 := by decide
  have hsum := fun c => addB_amt oa.asc ob.asc c
  have S1 := Lib.hid (fun W xa ya c d hG hx hy => money_all.ok.sumB oa ob (pa.mono hcap2) (pb.mono hcap2) (by omega) rfl W xa ya c d hG hx hy)
  have AA0 := fun c W xa cap hG hx => amtB oa (pa.mono hcap2) c W xa cap hG hx
  have AB0 := fun c W xa cap hG hx => amtB ob (pb.mono hcap2) c W xa cap hG hx
  have AX0 := fun c W xa cap hG hx => amtB ox (px.mono hcap) c W xa cap hG hx
  have AD0 : ∀ c W, Ground W → Calls Tryz.prog 35 #[.string (cS (amt A c)), .string (cS (amt B c))] W (StrPost W (amt A c + amt B c)) := fun c W hG => add_v W hG
    (Nat.le_trans (cS_size (k := 19) (by have := amt_cap (pa.mono hcap2) c; omega)) (by decide)) (Nat.le_trans (cS_size (k := 19) (by have := amt_cap (pb.mono hcap2) c; omega)) (by decide)) (vS_cS _) (vS_cS _) rfl
  have E0 := fun W xa ya c d hx hy => eqBags A B (by omega) W xa ya c d hx hy
  rw [← sameTo_bags oa ob] at E0
  obtain ⟨N, hN⟩ : ∃ N, A.length + B.length = N := ⟨_, rfl⟩
  obtain ⟨f, hf⟩ : ∃ f, catF A.length (atU A) (atU B) = f := ⟨_, rfl⟩
  obtain ⟨g, hg2⟩ : ∃ g, catF A.length (fun i => cS (atX A i)) (fun i => cS (atX B i)) = g := ⟨_, rfl⟩
  rw [hN, hf] at E0
  have CC := Lib.hid (fun (W : World) (q : Nat) h0 h1 hx hy => pConcat W q A.length B.length ca cb xa ya (atU A) (fun i => cS (atX A i)) (atU B) (fun i => cS (atX B i)) h0 h1 hx hy (by omega) (by omega))
  rw [hN, hf, hg2] at CC
  obtain ⟨X, hX⟩ : ∃ X, addB A B = X := ⟨_, rfl⟩
  rw [hX] at S1 AX0 hsum
  obtain ⟨fa, hfa⟩ : ∃ f, (fun c => cS (amt A c)) = f := ⟨_, rfl⟩
  obtain ⟨fb, hfb⟩ : ∃ f, (fun c => cS (amt B c)) = f := ⟨_, rfl⟩
  obtain ⟨fs, hfs⟩ : ∃ f, (fun c => cS (amt A c + amt B c)) = f := ⟨_, rfl⟩
  have AA := Lib.hid (show ∀ c W xa cap, Ground W → RB W xa A → Calls Tryz.prog 26 #[.slice xa A.length cap, .string c] W fun e w' => e = .returned (.string (fa c)) ∧ Below W.heap.size W w' from by rw [← hfa]; exact AA0)
  have AB := Lib.hid (show ∀ c W xa cap, Ground W → RB W xa B → Calls Tryz.prog 26 #[.slice xa B.length cap, .string c] W fun e w' => e = .returned (.string (fb c)) ∧ Below W.heap.size W w' from by rw [← hfb]; exact AB0)
  have AX := Lib.hid (show ∀ c W xa cap, Ground W → RB W xa X → Calls Tryz.prog 26 #[.slice xa X.length cap, .string c] W fun e w' => e = .returned (.string (fs c)) ∧ Below W.heap.size W w' from by rw [← hfs]; intro c; have := AX0 c; rw [hsum c] at this; exact this)
  have AD := Lib.hid (show ∀ c W, Ground W → Calls Tryz.prog 35 #[.string (fa c), .string (fb c)] W fun e w' => e = .returned (.string (fs c)) ∧ Below W.heap.size W w' from by rw [← hfa, ← hfb, ← hfs]; exact AD0)
  have SAME := Lib.hid (show ∀ c, decide (fa c = fb c) = decide (amt A c = amt B c) from fun c => by
    rw [Bool.eq_iff_iff, decide_eq_true_iff, decide_eq_true_iff, ← hfa, ← hfb]; exact ⟨fun e => cS_inj e, fun e => congrArg cS e⟩)
  have EQ := Lib.hid E0
  have HA := Lib.hid ra
  have HB := Lib.hid rb
  have HNN := Lib.hid (show N ≤ 12 by omega)
  unfold BagP at S1
  unfold ValP at HAW ⊢
  clear hx hy hn hm hg hg1 hG hsa hsb hl hl2 h1 h2 oa ob pa pb ra rb lx ox px hcap hcap2 hsum AA0 AB0 AX0 AD0 E0 hN hf hg2 hX hfa hfb hfs hA hB HX HY
  go_enter Tryz.func8, Tryz.ntmps8
  go_wp2_with fail
  refine HGR.out.mono ?_
  rintro _ w1 ⟨rfl, hb⟩
  go_wp2_with fail
  refine Calls.mono (C1.out _ _ _ (HG.out.below hb) (HX0.out.belowAt hb (Nat.le_refl _))) ?_
  rintro _ _ ⟨rfl, hB⟩
  replace hb := hb.trans (hB.mono hb.size)
  clear hB
  go_wp2_with fail
  refine Calls.mono (C2.out _ _ _ (HG.out.below hb) (HY0.out.belowAt hb (Nat.le_refl _))) ?_
  rintro _ _ ⟨rfl, hB⟩
  replace hb := hb.trans (hB.mono hb.size)
  clear hB
  go_wp2_with fail
  refine Calls.mono (S1.out _ _ _ _ _ (HG.out.below hb) (HA.out.belowAt hb (Nat.le_refl _)) (HB.out.belowAt hb (Nat.le_refl _))) ?_
  rintro _ w3 ⟨sa, sc, rfl, xr, hB⟩
  replace hb := hb.trans (hB.mono hb.size)
  clear hB
  go_wp2_with fail
  refine Calls.mono (AX.out _ _ _ _ (HG.out.below hb) xr) ?_
  rintro _ w4 ⟨rfl, hB⟩
  replace xr := Rc.below xr hB
  replace hb := hb.trans (hB.mono hb.size)
  clear hB
  go_wp2_with fail
  refine Calls.mono (AA.out _ _ _ _ (HG.out.below hb) (HA.out.belowAt hb (Nat.le_refl _))) ?_
  rintro _ w5 ⟨rfl, hB⟩
  replace xr := Rc.below xr hB
  replace hb := hb.trans (hB.mono hb.size)
  clear hB
  go_wp2_with fail
  refine Calls.mono (AB.out _ _ _ _ (HG.out.below hb) (HB.out.belowAt hb (Nat.le_refl _))) ?_
  rintro _ w6 ⟨rfl, hB⟩
  replace xr := Rc.below xr hB
  replace hb := hb.trans (hB.mono hb.size)
  clear hB
  go_wp2_with fail
  refine Calls.mono (AD.out _ _ (HG.out.below hb)) ?_
  rintro _ w7 ⟨rfl, hB⟩
  replace xr := Rc.below xr hB
  replace hb := hb.trans (hB.mono hb.size)
  clear hB
  go_wp2_with fail
  have hbq : Below w.heap.size w (w7.alloc (.cells #[.slice xa A.length (A.length + ca), .slice ya B.length (B.length + cb)] 32)) := hb.alloc hb.size _
  refine Calls.mono (CC.out _ w7.heap.size (cell_of_row _ _ _ _ _ _ (heap_alloc_new w7 _)) (cell_of_row _ _ _ _ _ _ (heap_alloc_new w7 _)) (HA.out.belowAt hbq (Nat.le_refl _)) (HB.out.belowAt hbq (Nat.le_refl _))) ?_
  rintro _ w8 ⟨za, cz, rfl, zr, hB⟩
  have H8 := Lib.hid (hbq.trans (hB.mono hbq.size))
  have HXR := Lib.hid (Rc.below ((show RB (w7.alloc (.cells #[.slice xa A.length (A.length + ca), .slice ya B.length (B.length + cb)] 32)) sa X from xr.alloc _)) hB)
  have HZ := Lib.hid zr
  clear zr xr hB hbq hb C1 C2 HX0 HY0 CC S1
  go_wp2_with fail
  go_loopw [9, 63] (fun sv iv wr => ∃ k : Nat, k ≤ N ∧ iv = .int .i64 (k : Int) ∧ sv = .bool (sameTo A B f k) ∧ Hid (Below w8.heap.size w8 wr)) (fun _ iv _ => N - (intOf iv).toNat)
  case atStart => exact ⟨0, Nat.zero_le _, rfl, rfl, Lib.hid (Below.refl _ _)⟩
  case round =>
    obtain ⟨k, hk, rfl, rfl, HB1⟩ := hrel
    have hN1 := HNN.out
    have hw1 : IntKind.i64.wrap ((k : Int) + 1) = (k : Int) + 1 := IntWalk.i64_in _ (by omega)
    by_cases hlt : k < N
    · obtain ⟨b, o, rfl, hlb, y1, y2⟩ := Rf.at HZ.out hlt
      have z1 := (HB1.out.cell (p := ⟨b, o + k * 2, none⟩) hlb).trans y1
      have z2 := (HB1.out.cell (p := ⟨b, o + k * 2 + 1, none⟩) hlb).trans y2
      obtain ⟨ck, hck⟩ : ∃ y, f k = y := ⟨_, rfl⟩
      obtain ⟨vk, hvk⟩ : ∃ y, g k = y := ⟨_, rfl⟩
      rw [hck] at z1
      rw [hvk] at z2
      have hlt' : (k : Int) < (N : Int) := by omega
      have hk0 : (0 : Int) ≤ (k : Int) := by omega
      have HSN := Lib.hid (sameTo_next A B f k)
      rw [hck] at HSN
      obtain ⟨E1, hE1⟩ : ∃ s, wr.heap.size = s := ⟨_, rfl⟩
      obtain ⟨W9, hW9⟩ : ∃ W, W = wr.alloc (.cells #[.string ck, .string vk] 35) := ⟨_, rfl⟩
      have HTc := Lib.hid (show TwoAt W9 E1 35 (.string ck) (.string vk) by rw [hW9, ← hE1]; exact TwoAt.made _ _ _ _)
      have HBc := Lib.hid (show Below w8.heap.size w8 W9 by rw [hW9]; exact HB1.out.alloc HB1.out.size _)
      obtain ⟨sm, hsm⟩ : ∃ b, sameTo A B f k = b := ⟨_, rfl⟩
      rw [hsm] at HSN
      rw [hsm]
      clear y1 y2 hck hvk HB1 hsm
      go_upto_region 10 with fail
      rw [← hW9]
      try rw [hE1]
      clear hW9 hE1 z1 z2
      cases sm with
      | true =>
        obtain ⟨q1, q2, q3, q4⟩ := HTc.out.cells
        replace HBc := Lib.hid (below_drew HBc.out)
        replace HTc := Lib.hid (show TwoAt W9.drew E1 35 (.string ck) (.string vk) from HTc.out)
        refine wp_region_held_drew (S := fun w' => w'.cell? ⟨E1, 0, none⟩ = some (.string ck)) (by kernel_rfl) (by (try dsimp only); exact q1) (fun hHeld => ?_)
        refine wpAnyH_take (i := 0) (oi := { dst := some 67, op := Op.move (Operand.tmp 9), type := 4, pos := "law.go:106", after := #[], guard := none }) (v := ?_) rfl (by kernel_rfl) (by kernel_rfl) (by kernel_rfl) (fun _ _ _ h => h) (Or.inl ⟨by rfl, ?_⟩) (by assumption) ?_
        rotate_left
        focus ((intro w hSw; (try dsimp only at hSw); go_simp); (try with_reducible rfl))
        try simp only [Act.put, List.setIfInBounds_toArray, List.set_cons_zero, List.set_cons_succ]
        refine wpAnyH_take (i := 1) (oi := { dst := some 68, op := Op.move (Operand.tmp 67), type := 4, pos := "law.go:106", after := #[{ on := 0, ground := Ground.data }], guard := none }) (v := ?_) rfl (by kernel_rfl) (by kernel_rfl) (by kernel_rfl) (fun _ _ _ h => h) (Or.inl ⟨by rfl, ?_⟩) (by assumption) ?_
        rotate_left
        focus ((intro w hSw; (try dsimp only at hSw); go_simp); (try with_reducible rfl))
        try simp only [Act.put, List.setIfInBounds_toArray, List.set_cons_zero, List.set_cons_succ]
        refine wpAnyH_take (i := 2) (oi := { dst := some 69, op := Op.move (Operand.tmp 0), type := 32, pos := "law.go:106", after := #[{ on := 1, ground := Ground.guard }], guard := some (1, true) }) (v := ?_) rfl (by kernel_rfl) (by kernel_rfl) (by kernel_rfl) (fun _ _ _ h => h) (Or.inl ⟨by rfl, ?_⟩) (by assumption) ?_
        rotate_left
        focus ((intro w hSw; (try dsimp only at hSw); go_simp); (try with_reducible rfl))
        try simp only [Act.put, List.setIfInBounds_toArray, List.set_cons_zero, List.set_cons_succ]
        refine wpAnyH_take (i := 3) (oi := { dst := some 70, op := Op.fieldAddr 35 (Operand.tmp 11) 0, type := 0, pos := "law.go:106", after := #[{ on := 1, ground := Ground.guard }], guard := some (1, true) }) (v := ?_) rfl (by kernel_rfl) (by kernel_rfl) (by kernel_rfl) (fun _ _ _ h => h) (Or.inl ⟨by rfl, ?_⟩) (by assumption) ?_
        rotate_left
        focus ((intro w hSw; (try dsimp only at hSw); go_simp); (try with_reducible rfl))
        try simp only [Act.put, List.setIfInBounds_toArray, List.set_cons_zero, List.set_cons_succ]
        refine wpAnyH_take (i := 4) (oi := { dst := some 71, op := Op.load 9 (Operand.tmp 70), type := 9, pos := "law.go:106", after := #[{ on := 3, ground := Ground.data }, { on := 1, ground := Ground.guard }], guard := some (1, true) }) (v := ?_) rfl (by kernel_rfl) (by kernel_rfl) (by kernel_rfl) (fun _ _ _ h => h) (Or.inl ⟨by rfl, ?_⟩) (by assumption) ?_
        rotate_left
        focus ((intro w hSw; (try dsimp only at hSw); go_simp); (try with_reducible rfl))
        try simp only [Act.put, List.setIfInBounds_toArray, List.set_cons_zero, List.set_cons_succ]
        refine wpAnyH_take (i := 6) (oi := { dst := some 73, op := Op.move (Operand.tmp 1), type := 32, pos := "law.go:106", after := #[{ on := 1, ground := Ground.guard }], guard := some (1, true) }) (v := ?_) rfl (by kernel_rfl) (by kernel_rfl) (by kernel_rfl) (fun _ _ _ h => h) (Or.inl ⟨by rfl, ?_⟩) (by assumption) ?_
        rotate_left
        focus ((intro w hSw; (try dsimp only at hSw); go_simp); (try with_reducible rfl))
        try simp only [Act.put, List.setIfInBounds_toArray, List.set_cons_zero, List.set_cons_succ]
        refine wpAnyH_take (i := 7) (oi := { dst := some 74, op := Op.fieldAddr 35 (Operand.tmp 11) 0, type := 0, pos := "law.go:106", after := #[{ on := 1, ground := Ground.guard }], guard := some (1, true) }) (v := ?_) rfl (by kernel_rfl) (by kernel_rfl) (by kernel_rfl) (fun _ _ _ h => h) (Or.inl ⟨by rfl, ?_⟩) (by assumption) ?_
        rotate_left
        focus ((intro w hSw; (try dsimp only at hSw); go_simp); (try with_reducible rfl))
        try simp only [Act.put, List.setIfInBounds_toArray, List.set_cons_zero, List.set_cons_succ]
        refine wpAnyH_take (i := 8) (oi := { dst := some 75, op := Op.load 9 (Operand.tmp 74), type := 9, pos := "law.go:106", after := #[{ on := 7, ground := Ground.data }, { on := 1, ground := Ground.guard }], guard := some (1, true) }) (v := ?_) rfl (by kernel_rfl) (by kernel_rfl) (by kernel_rfl) (fun _ _ _ h => h) (Or.inl ⟨by rfl, ?_⟩) (by assumption) ?_
        rotate_left
        focus ((intro w hSw; (try dsimp only at hSw); go_simp); (try with_reducible rfl))
        try simp only [Act.put, List.setIfInBounds_toArray, List.set_cons_zero, List.set_cons_succ]
        refine wpAnyH_ready (rs := [5]) (by kernel_rfl) (by simp) ?_
        refine AllReadyH.cons (o := { dst := some 72, op := Op.call { callee := Callee.value (Operand.func 26), args := #[Operand.tmp 69, Operand.tmp 71], argTypes := #[32, 9] }, type := 33, pos := "law.go:106", after := #[{ on := 2, ground := Ground.data }, { on := 4, ground := Ground.data }, { on := 1, ground := Ground.chain }, { on := 1, ground := Ground.guard }], guard := some (1, true) }) rfl (fun K hK => ?_) AllReadyH.nil
        clear hHeld
        go_simp
        refine (AA.out ck _ _ _ (HG.out.below (H8.out.trans (HBc.out.mono H8.out.size))) (HA.out.belowAt (H8.out.trans (HBc.out.mono H8.out.size)) (Nat.le_refl _))).mono ?_
        rintro _ wa ⟨rfl, hB1⟩
        replace HTc := Lib.hid (TwoAt.below HTc.out hB1)
        replace HBc := Lib.hid (HBc.out.trans (hB1.mono HBc.out.size))
        clear q1 q2 q3 q4 hB1
        obtain ⟨q1, q2, q3, q4⟩ := HTc.out.cells
        go_wp2_with fail
        refine hK.out _ _ (by (try dsimp only); exact q1) (fun hHeld => ?_)
        clear hK K
        try simp only [Act.put, List.setIfInBounds_toArray, List.set_cons_zero, List.set_cons_succ]
        refine wpAnyH_ready (rs := [9]) (by kernel_rfl) (by simp) ?_
        refine AllReadyH.cons (o := { dst := some 76, op := Op.call { callee := Callee.value (Operand.func 26), args := #[Operand.tmp 73, Operand.tmp 75], argTypes := #[32, 9] }, type := 33, pos := "law.go:106", after := #[{ on := 6, ground := Ground.data }, { on := 8, ground := Ground.data }, { on := 5, ground := Ground.chain }, { on := 1, ground := Ground.guard }], guard := some (1, true) }) rfl (fun K hK => ?_) AllReadyH.nil
        clear hHeld
        go_simp
        refine (AB.out ck _ _ _ (HG.out.below (H8.out.trans (HBc.out.mono H8.out.size))) (HB.out.belowAt (H8.out.trans (HBc.out.mono H8.out.size)) (Nat.le_refl _))).mono ?_
        rintro _ wb ⟨rfl, hB1⟩
        replace HTc := Lib.hid (TwoAt.below HTc.out hB1)
        replace HBc := Lib.hid (HBc.out.trans (hB1.mono HBc.out.size))
        clear q1 q2 q3 q4 hB1
        obtain ⟨q1, q2, q3, q4⟩ := HTc.out.cells
        go_wp2_with fail
        refine hK.out _ _ (by (try dsimp only); exact q1) (fun hHeld => ?_)
        clear hK K
        try simp only [Act.put, List.setIfInBounds_toArray, List.set_cons_zero, List.set_cons_succ]
        refine wpAnyH_take (i := 10) (oi := { dst := some 77, op := Op.binOp BinOp.eql 33 (Operand.tmp 72) (Operand.tmp 76) 33, type := 4, pos := "law.go:106", after := #[{ on := 5, ground := Ground.data }, { on := 9, ground := Ground.data }, { on := 1, ground := Ground.guard }], guard := some (1, true) }) (v := ?_) rfl (by kernel_rfl) (by kernel_rfl) (by kernel_rfl) (fun _ _ _ h => h) (Or.inl ⟨by rfl, ?_⟩) (by assumption) ?_
        rotate_left
        focus ((intro w hSw; (try dsimp only at hSw); go_simp); (try with_reducible rfl))
        try simp only [Act.put, List.setIfInBounds_toArray, List.set_cons_zero, List.set_cons_succ]
        refine wpAnyH_take (i := 11) (oi := { dst := some 78, op := Op.pick (Operand.tmp 68) (Operand.tmp 77) (Operand.const (Value.bool false)), type := 4, pos := "law.go:106", after := #[{ on := 1, ground := Ground.data }, { on := 10, ground := Ground.data }], guard := none }) (v := ?_) rfl (by kernel_rfl) (by kernel_rfl) (by kernel_rfl) (fun _ _ _ h => h) (Or.inl ⟨by rfl, ?_⟩) (by assumption) ?_
        rotate_left
        focus ((intro w hSw; (try dsimp only at hSw); go_simp); (try with_reducible rfl))
        try simp only [Act.put, List.setIfInBounds_toArray, List.set_cons_zero, List.set_cons_succ]
        refine wpAnyH_take (i := 12) (oi := { dst := some 9, op := Op.assign (Operand.tmp 78), type := 4, pos := "law.go:106", after := #[{ on := 11, ground := Ground.data }, { on := 9, ground := Ground.chain }, { on := 0, ground := Ground.phase }, { on := 1, ground := Ground.phase }, { on := 2, ground := Ground.phase }, { on := 3, ground := Ground.phase }, { on := 4, ground := Ground.phase }, { on := 5, ground := Ground.phase }, { on := 6, ground := Ground.phase }, { on := 7, ground := Ground.phase }, { on := 8, ground := Ground.phase }, { on := 9, ground := Ground.phase }, { on := 10, ground := Ground.phase }, { on := 11, ground := Ground.phase }], guard := none }) (v := ?_) rfl (by kernel_rfl) (by kernel_rfl) (by kernel_rfl) (fun _ _ _ h => h) (Or.inl ⟨by rfl, ?_⟩) (by assumption) ?_
        rotate_left
        focus ((intro w hSw; (try dsimp only at hSw); go_simp); (try with_reducible rfl))
        try simp only [Act.put, List.setIfInBounds_toArray, List.set_cons_zero, List.set_cons_succ]
        refine wpAnyH_done (by kernel_rfl) ?_ _
        clear hHeld
        go_upto_region 11 with fail
        clear q1 q2 q3 q4
        obtain ⟨q1, q2, q3, q4⟩ := HTc.out.cells
        replace HBc := Lib.hid (below_drew HBc.out)
        replace HTc := Lib.hid (show TwoAt wb.drew E1 35 (.string ck) (.string vk) from HTc.out)
        refine wp_region_held_drew (S := fun w' => w'.cell? ⟨E1, 0, none⟩ = some (.string ck)) (by kernel_rfl) (by (try dsimp only); exact q1) (fun hHeld => ?_)
        refine wpAnyH_take (i := 0) (oi := { dst := some 79, op := Op.move (Operand.tmp 7), type := 32, pos := "law.go:107", after := #[], guard := none }) (v := ?_) rfl (by kernel_rfl) (by kernel_rfl) (by kernel_rfl) (fun _ _ _ h => h) (Or.inl ⟨by rfl, ?_⟩) (by assumption) ?_
        rotate_left
        focus ((intro w hSw; (try dsimp only at hSw); go_simp); (try with_reducible rfl))
        try simp only [Act.put, List.setIfInBounds_toArray, List.set_cons_zero, List.set_cons_succ]
        refine wpAnyH_take (i := 1) (oi := { dst := some 80, op := Op.fieldAddr 35 (Operand.tmp 11) 0, type := 0, pos := "law.go:107", after := #[], guard := none }) (v := ?_) rfl (by kernel_rfl) (by kernel_rfl) (by kernel_rfl) (fun _ _ _ h => h) (Or.inl ⟨by rfl, ?_⟩) (by assumption) ?_
        rotate_left
        focus ((intro w hSw; (try dsimp only at hSw); go_simp); (try with_reducible rfl))
        try simp only [Act.put, List.setIfInBounds_toArray, List.set_cons_zero, List.set_cons_succ]
        refine wpAnyH_take (i := 2) (oi := { dst := some 81, op := Op.load 9 (Operand.tmp 80), type := 9, pos := "law.go:107", after := #[{ on := 1, ground := Ground.data }], guard := none }) (v := ?_) rfl (by kernel_rfl) (by kernel_rfl) (by kernel_rfl) (fun _ _ _ h => h) (Or.inl ⟨by rfl, ?_⟩) (by assumption) ?_
        rotate_left
        focus ((intro w hSw; (try dsimp only at hSw); go_simp); (try with_reducible rfl))
        try simp only [Act.put, List.setIfInBounds_toArray, List.set_cons_zero, List.set_cons_succ]
        refine wpAnyH_take (i := 4) (oi := { dst := some 83, op := Op.move (Operand.tmp 0), type := 32, pos := "law.go:107", after := #[], guard := none }) (v := ?_) rfl (by kernel_rfl) (by kernel_rfl) (by kernel_rfl) (fun _ _ _ h => h) (Or.inl ⟨by rfl, ?_⟩) (by assumption) ?_
        rotate_left
        focus ((intro w hSw; (try dsimp only at hSw); go_simp); (try with_reducible rfl))
        try simp only [Act.put, List.setIfInBounds_toArray, List.set_cons_zero, List.set_cons_succ]
        refine wpAnyH_take (i := 5) (oi := { dst := some 84, op := Op.fieldAddr 35 (Operand.tmp 11) 0, type := 0, pos := "law.go:107", after := #[], guard := none }) (v := ?_) rfl (by kernel_rfl) (by kernel_rfl) (by kernel_rfl) (fun _ _ _ h => h) (Or.inl ⟨by rfl, ?_⟩) (by assumption) ?_
        rotate_left
        focus ((intro w hSw; (try dsimp only at hSw); go_simp); (try with_reducible rfl))
        try simp only [Act.put, List.setIfInBounds_toArray, List.set_cons_zero, List.set_cons_succ]
        refine wpAnyH_take (i := 6) (oi := { dst := some 85, op := Op.load 9 (Operand.tmp 84), type := 9, pos := "law.go:107", after := #[{ on := 5, ground := Ground.data }], guard := none }) (v := ?_) rfl (by kernel_rfl) (by kernel_rfl) (by kernel_rfl) (fun _ _ _ h => h) (Or.inl ⟨by rfl, ?_⟩) (by assumption) ?_
        rotate_left
        focus ((intro w hSw; (try dsimp only at hSw); go_simp); (try with_reducible rfl))
        try simp only [Act.put, List.setIfInBounds_toArray, List.set_cons_zero, List.set_cons_succ]
        refine wpAnyH_take (i := 8) (oi := { dst := some 87, op := Op.move (Operand.tmp 1), type := 32, pos := "law.go:107", after := #[], guard := none }) (v := ?_) rfl (by kernel_rfl) (by kernel_rfl) (by kernel_rfl) (fun _ _ _ h => h) (Or.inl ⟨by rfl, ?_⟩) (by assumption) ?_
        rotate_left
        focus ((intro w hSw; (try dsimp only at hSw); go_simp); (try with_reducible rfl))
        try simp only [Act.put, List.setIfInBounds_toArray, List.set_cons_zero, List.set_cons_succ]
        refine wpAnyH_take (i := 9) (oi := { dst := some 88, op := Op.fieldAddr 35 (Operand.tmp 11) 0, type := 0, pos := "law.go:107", after := #[], guard := none }) (v := ?_) rfl (by kernel_rfl) (by kernel_rfl) (by kernel_rfl) (fun _ _ _ h => h) (Or.inl ⟨by rfl, ?_⟩) (by assumption) ?_
        rotate_left
        focus ((intro w hSw; (try dsimp only at hSw); go_simp); (try with_reducible rfl))
        try simp only [Act.put, List.setIfInBounds_toArray, List.set_cons_zero, List.set_cons_succ]
        refine wpAnyH_take (i := 10) (oi := { dst := some 89, op := Op.load 9 (Operand.tmp 88), type := 9, pos := "law.go:107", after := #[{ on := 9, ground := Ground.data }], guard := none }) (v := ?_) rfl (by kernel_rfl) (by kernel_rfl) (by kernel_rfl) (fun _ _ _ h => h) (Or.inl ⟨by rfl, ?_⟩) (by assumption) ?_
        rotate_left
        focus ((intro w hSw; (try dsimp only at hSw); go_simp); (try with_reducible rfl))
        try simp only [Act.put, List.setIfInBounds_toArray, List.set_cons_zero, List.set_cons_succ]
        refine wpAnyH_ready (rs := [3]) (by kernel_rfl) (by simp) ?_
        refine AllReadyH.cons (o := { dst := some 82, op := Op.call { callee := Callee.value (Operand.func 26), args := #[Operand.tmp 79, Operand.tmp 81], argTypes := #[32, 9] }, type := 33, pos := "law.go:107", after := #[{ on := 0, ground := Ground.data }, { on := 2, ground := Ground.data }], guard := none }) rfl (fun K hK => ?_) AllReadyH.nil
        clear hHeld
        go_simp
        refine (AX.out ck _ _ _ (HG.out.below (H8.out.trans (HBc.out.mono H8.out.size))) (HXR.out.belowAt HBc.out (Nat.le_refl _))).mono ?_
        rintro _ wx ⟨rfl, hB1⟩
        replace HTc := Lib.hid (TwoAt.below HTc.out hB1)
        replace HBc := Lib.hid (HBc.out.trans (hB1.mono HBc.out.size))
        clear q1 q2 q3 q4 hB1
        obtain ⟨q1, q2, q3, q4⟩ := HTc.out.cells
        go_wp2_with fail
        refine hK.out _ _ (by (try dsimp only); exact q1) (fun hHeld => ?_)
        clear hK K
        try simp only [Act.put, List.setIfInBounds_toArray, List.set_cons_zero, List.set_cons_succ]
        refine wpAnyH_ready (rs := [7]) (by kernel_rfl) (by simp) ?_
        refine AllReadyH.cons (o := { dst := some 86, op := Op.call { callee := Callee.value (Operand.func 26), args := #[Operand.tmp 83, Operand.tmp 85], argTypes := #[32, 9] }, type := 33, pos := "law.go:107", after := #[{ on := 4, ground := Ground.data }, { on := 6, ground := Ground.data }, { on := 3, ground := Ground.chain }], guard := none }) rfl (fun K hK => ?_) AllReadyH.nil
        clear hHeld
        go_simp
        refine (AA.out ck _ _ _ (HG.out.below (H8.out.trans (HBc.out.mono H8.out.size))) (HA.out.belowAt (H8.out.trans (HBc.out.mono H8.out.size)) (Nat.le_refl _))).mono ?_
        rintro _ wy ⟨rfl, hB1⟩
        replace HTc := Lib.hid (TwoAt.below HTc.out hB1)
        replace HBc := Lib.hid (HBc.out.trans (hB1.mono HBc.out.size))
        clear q1 q2 q3 q4 hB1
        obtain ⟨q1, q2, q3, q4⟩ := HTc.out.cells
        go_wp2_with fail
        refine hK.out _ _ (by (try dsimp only); exact q1) (fun hHeld => ?_)
        clear hK K
        try simp only [Act.put, List.setIfInBounds_toArray, List.set_cons_zero, List.set_cons_succ]
        refine wpAnyH_ready (rs := [11]) (by kernel_rfl) (by simp) ?_
        refine AllReadyH.cons (o := { dst := some 90, op := Op.call { callee := Callee.value (Operand.func 26), args := #[Operand.tmp 87, Operand.tmp 89], argTypes := #[32, 9] }, type := 33, pos := "law.go:107", after := #[{ on := 8, ground := Ground.data }, { on := 10, ground := Ground.data }, { on := 7, ground := Ground.chain }], guard := none }) rfl (fun K hK => ?_) AllReadyH.nil
        clear hHeld
        go_simp
        refine (AB.out ck _ _ _ (HG.out.below (H8.out.trans (HBc.out.mono H8.out.size))) (HB.out.belowAt (H8.out.trans (HBc.out.mono H8.out.size)) (Nat.le_refl _))).mono ?_
        rintro _ wz ⟨rfl, hB1⟩
        replace HTc := Lib.hid (TwoAt.below HTc.out hB1)
        replace HBc := Lib.hid (HBc.out.trans (hB1.mono HBc.out.size))
        clear q1 q2 q3 q4 hB1
        obtain ⟨q1, q2, q3, q4⟩ := HTc.out.cells
        go_wp2_with fail
        refine hK.out _ _ (by (try dsimp only); exact q1) (fun hHeld => ?_)
        clear hK K
        try simp only [Act.put, List.setIfInBounds_toArray, List.set_cons_zero, List.set_cons_succ]
        refine wpAnyH_ready (rs := [12]) (by kernel_rfl) (by simp) ?_
        refine AllReadyH.cons (o := { dst := some 91, op := Op.call { callee := Callee.value (Operand.func 35), args := #[Operand.tmp 86, Operand.tmp 90], argTypes := #[33, 33] }, type := 33, pos := "law.go:107", after := #[{ on := 7, ground := Ground.data }, { on := 11, ground := Ground.data }, { on := 11, ground := Ground.chain }], guard := none }) rfl (fun K hK => ?_) AllReadyH.nil
        clear hHeld
        go_simp
        refine (AD.out ck _ (HG.out.below (H8.out.trans (HBc.out.mono H8.out.size)))).mono ?_
        rintro _ wd ⟨rfl, hB1⟩
        replace HTc := Lib.hid (TwoAt.below HTc.out hB1)
        replace HBc := Lib.hid (HBc.out.trans (hB1.mono HBc.out.size))
        clear q1 q2 q3 q4 hB1
        obtain ⟨q1, q2, q3, q4⟩ := HTc.out.cells
        go_wp2_with fail
        refine hK.out _ _ (by (try dsimp only); exact q1) (fun hHeld => ?_)
        clear hK K
        try simp only [Act.put, List.setIfInBounds_toArray, List.set_cons_zero, List.set_cons_succ]
        refine wpAnyH_take (i := 13) (oi := { dst := some 92, op := Op.binOp BinOp.neq 33 (Operand.tmp 82) (Operand.tmp 91) 33, type := 4, pos := "law.go:107", after := #[{ on := 3, ground := Ground.data }, { on := 12, ground := Ground.data }], guard := none }) (v := ?_) rfl (by kernel_rfl) (by kernel_rfl) (by kernel_rfl) (fun _ _ _ h => h) (Or.inl ⟨by rfl, ?_⟩) (by assumption) ?_
        rotate_left
        focus ((intro w hSw; (try dsimp only at hSw); go_simp); (try with_reducible rfl))
        try simp only [Act.put, List.setIfInBounds_toArray, List.set_cons_zero, List.set_cons_succ]
        refine wpAnyH_done (by kernel_rfl) ?_ _
        clear hHeld
        go_wp2_with fail
        go_roundw
        case rel => exact ⟨k + 1, by omega, by simp, by rw [HSN.out, ← SAME.out ck]; simp [beq_toList], HBc⟩
        case measure => simp [intOf]; omega
      | false =>
        obtain ⟨q1, q2, q3, q4⟩ := HTc.out.cells
        replace HBc := Lib.hid (below_drew HBc.out)
        replace HTc := Lib.hid (show TwoAt W9.drew E1 35 (.string ck) (.string vk) from HTc.out)
        refine wp_region_held_drew (S := fun w' => w'.cell? ⟨E1, 0, none⟩ = some (.string ck)) (by kernel_rfl) (by (try dsimp only); exact q1) (fun hHeld => ?_)
        refine wpAnyH_take (i := 0) (oi := { dst := some 67, op := Op.move (Operand.tmp 9), type := 4, pos := "law.go:106", after := #[], guard := none }) (v := ?_) rfl (by kernel_rfl) (by kernel_rfl) (by kernel_rfl) (fun _ _ _ h => h) (Or.inl ⟨by rfl, ?_⟩) (by assumption) ?_
        rotate_left
        focus ((intro w hSw; (try dsimp only at hSw); go_simp); (try with_reducible rfl))
        try simp only [Act.put, List.setIfInBounds_toArray, List.set_cons_zero, List.set_cons_succ]
        refine wpAnyH_take (i := 1) (oi := { dst := some 68, op := Op.move (Operand.tmp 67), type := 4, pos := "law.go:106", after := #[{ on := 0, ground := Ground.data }], guard := none }) (v := ?_) rfl (by kernel_rfl) (by kernel_rfl) (by kernel_rfl) (fun _ _ _ h => h) (Or.inl ⟨by rfl, ?_⟩) (by assumption) ?_
        rotate_left
        focus ((intro w hSw; (try dsimp only at hSw); go_simp); (try with_reducible rfl))
        try simp only [Act.put, List.setIfInBounds_toArray, List.set_cons_zero, List.set_cons_succ]
        refine wpAnyH_take (i := 2) (oi := { dst := some 69, op := Op.move (Operand.tmp 0), type := 32, pos := "law.go:106", after := #[{ on := 1, ground := Ground.guard }], guard := some (1, true) }) (v := undef) rfl (by kernel_rfl) (by kernel_rfl) (by kernel_rfl) (fun _ _ _ h => h) (Or.inr ⟨by rfl, rfl⟩) (by assumption) ?_
        try simp only [Act.put, List.setIfInBounds_toArray, List.set_cons_zero, List.set_cons_succ]
        refine wpAnyH_take (i := 3) (oi := { dst := some 70, op := Op.fieldAddr 35 (Operand.tmp 11) 0, type := 0, pos := "law.go:106", after := #[{ on := 1, ground := Ground.guard }], guard := some (1, true) }) (v := undef) rfl (by kernel_rfl) (by kernel_rfl) (by kernel_rfl) (fun _ _ _ h => h) (Or.inr ⟨by rfl, rfl⟩) (by assumption) ?_
        try simp only [Act.put, List.setIfInBounds_toArray, List.set_cons_zero, List.set_cons_succ]
        refine wpAnyH_take (i := 4) (oi := { dst := some 71, op := Op.load 9 (Operand.tmp 70), type := 9, pos := "law.go:106", after := #[{ on := 3, ground := Ground.data }, { on := 1, ground := Ground.guard }], guard := some (1, true) }) (v := undef) rfl (by kernel_rfl) (by kernel_rfl) (by kernel_rfl) (fun _ _ _ h => h) (Or.inr ⟨by rfl, rfl⟩) (by assumption) ?_
        try simp only [Act.put, List.setIfInBounds_toArray, List.set_cons_zero, List.set_cons_succ]
        refine wpAnyH_take (i := 5) (oi := { dst := some 72, op := Op.call { callee := Callee.value (Operand.func 26), args := #[Operand.tmp 69, Operand.tmp 71], argTypes := #[32, 9] }, type := 33, pos := "law.go:106", after := #[{ on := 2, ground := Ground.data }, { on := 4, ground := Ground.data }, { on := 1, ground := Ground.chain }, { on := 1, ground := Ground.guard }], guard := some (1, true) }) (v := undef) rfl (by kernel_rfl) (by kernel_rfl) (by kernel_rfl) (fun _ _ _ h => h) (Or.inr ⟨by rfl, rfl⟩) (by assumption) ?_
        try simp only [Act.put, List.setIfInBounds_toArray, List.set_cons_zero, List.set_cons_succ]
        refine wpAnyH_take (i := 6) (oi := { dst := some 73, op := Op.move (Operand.tmp 1), type := 32, pos := "law.go:106", after := #[{ on := 1, ground := Ground.guard }], guard := some (1, true) }) (v := undef) rfl (by kernel_rfl) (by kernel_rfl) (by kernel_rfl) (fun _ _ _ h => h) (Or.inr ⟨by rfl, rfl⟩) (by assumption) ?_
        try simp only [Act.put, List.setIfInBounds_toArray, List.set_cons_zero, List.set_cons_succ]
        refine wpAnyH_take (i := 7) (oi := { dst := some 74, op := Op.fieldAddr 35 (Operand.tmp 11) 0, type := 0, pos := "law.go:106", after := #[{ on := 1, ground := Ground.guard }], guard := some (1, true) }) (v := undef) rfl (by kernel_rfl) (by kernel_rfl) (by kernel_rfl) (fun _ _ _ h => h) (Or.inr ⟨by rfl, rfl⟩) (by assumption) ?_
        try simp only [Act.put, List.setIfInBounds_toArray, List.set_cons_zero, List.set_cons_succ]
        refine wpAnyH_take (i := 8) (oi := { dst := some 75, op := Op.load 9 (Operand.tmp 74), type := 9, pos := "law.go:106", after := #[{ on := 7, ground := Ground.data }, { on := 1, ground := Ground.guard }], guard := some (1, true) }) (v := undef) rfl (by kernel_rfl) (by kernel_rfl) (by kernel_rfl) (fun _ _ _ h => h) (Or.inr ⟨by rfl, rfl⟩) (by assumption) ?_
        try simp only [Act.put, List.setIfInBounds_toArray, List.set_cons_zero, List.set_cons_succ]
        refine wpAnyH_take (i := 9) (oi := { dst := some 76, op := Op.call { callee := Callee.value (Operand.func 26), args := #[Operand.tmp 73, Operand.tmp 75], argTypes := #[32, 9] }, type := 33, pos := "law.go:106", after := #[{ on := 6, ground := Ground.data }, { on := 8, ground := Ground.data }, { on := 5, ground := Ground.chain }, { on := 1, ground := Ground.guard }], guard := some (1, true) }) (v := undef) rfl (by kernel_rfl) (by kernel_rfl) (by kernel_rfl) (fun _ _ _ h => h) (Or.inr ⟨by rfl, rfl⟩) (by assumption) ?_
        try simp only [Act.put, List.setIfInBounds_toArray, List.set_cons_zero, List.set_cons_succ]
        refine wpAnyH_take (i := 10) (oi := { dst := some 77, op := Op.binOp BinOp.eql 33 (Operand.tmp 72) (Operand.tmp 76) 33, type := 4, pos := "law.go:106", after := #[{ on := 5, ground := Ground.data }, { on := 9, ground := Ground.data }, { on := 1, ground := Ground.guard }], guard := some (1, true) }) (v := undef) rfl (by kernel_rfl) (by kernel_rfl) (by kernel_rfl) (fun _ _ _ h => h) (Or.inr ⟨by rfl, rfl⟩) (by assumption) ?_
        try simp only [Act.put, List.setIfInBounds_toArray, List.set_cons_zero, List.set_cons_succ]
        refine wpAnyH_take (i := 11) (oi := { dst := some 78, op := Op.pick (Operand.tmp 68) (Operand.tmp 77) (Operand.const (Value.bool false)), type := 4, pos := "law.go:106", after := #[{ on := 1, ground := Ground.data }, { on := 10, ground := Ground.data }], guard := none }) (v := ?_) rfl (by kernel_rfl) (by kernel_rfl) (by kernel_rfl) (fun _ _ _ h => h) (Or.inl ⟨by rfl, ?_⟩) (by assumption) ?_
        rotate_left
        focus ((intro w hSw; (try dsimp only at hSw); go_simp); (try with_reducible rfl))
        try simp only [Act.put, List.setIfInBounds_toArray, List.set_cons_zero, List.set_cons_succ]
        refine wpAnyH_take (i := 12) (oi := { dst := some 9, op := Op.assign (Operand.tmp 78), type := 4, pos := "law.go:106", after := #[{ on := 11, ground := Ground.data }, { on := 9, ground := Ground.chain }, { on := 0, ground := Ground.phase }, { on := 1, ground := Ground.phase }, { on := 2, ground := Ground.phase }, { on := 3, ground := Ground.phase }, { on := 4, ground := Ground.phase }, { on := 5, ground := Ground.phase }, { on := 6, ground := Ground.phase }, { on := 7, ground := Ground.phase }, { on := 8, ground := Ground.phase }, { on := 9, ground := Ground.phase }, { on := 10, ground := Ground.phase }, { on := 11, ground := Ground.phase }], guard := none }) (v := ?_) rfl (by kernel_rfl) (by kernel_rfl) (by kernel_rfl) (fun _ _ _ h => h) (Or.inl ⟨by rfl, ?_⟩) (by assumption) ?_
        rotate_left
        focus ((intro w hSw; (try dsimp only at hSw); go_simp); (try with_reducible rfl))
        try simp only [Act.put, List.setIfInBounds_toArray, List.set_cons_zero, List.set_cons_succ]
        refine wpAnyH_done (by kernel_rfl) ?_ _
        clear hHeld
        obtain ⟨wb, hwb⟩ : ∃ W, W = W9.drew := ⟨_, rfl⟩
        rw [← hwb]
        rw [← hwb] at HBc HTc
        clear hwb
        go_upto_region 11 with fail
        clear q1 q2 q3 q4
        obtain ⟨q1, q2, q3, q4⟩ := HTc.out.cells
        replace HBc := Lib.hid (below_drew HBc.out)
        replace HTc := Lib.hid (show TwoAt wb.drew E1 35 (.string ck) (.string vk) from HTc.out)
        refine wp_region_held_drew (S := fun w' => w'.cell? ⟨E1, 0, none⟩ = some (.string ck)) (by kernel_rfl) (by (try dsimp only); exact q1) (fun hHeld => ?_)
        refine wpAnyH_take (i := 0) (oi := { dst := some 79, op := Op.move (Operand.tmp 7), type := 32, pos := "law.go:107", after := #[], guard := none }) (v := ?_) rfl (by kernel_rfl) (by kernel_rfl) (by kernel_rfl) (fun _ _ _ h => h) (Or.inl ⟨by rfl, ?_⟩) (by assumption) ?_
        rotate_left
        focus ((intro w hSw; (try dsimp only at hSw); go_simp); (try with_reducible rfl))
        try simp only [Act.put, List.setIfInBounds_toArray, List.set_cons_zero, List.set_cons_succ]
        refine wpAnyH_take (i := 1) (oi := { dst := some 80, op := Op.fieldAddr 35 (Operand.tmp 11) 0, type := 0, pos := "law.go:107", after := #[], guard := none }) (v := ?_) rfl (by kernel_rfl) (by kernel_rfl) (by kernel_rfl) (fun _ _ _ h => h) (Or.inl ⟨by rfl, ?_⟩) (by assumption) ?_
        rotate_left
        focus ((intro w hSw; (try dsimp only at hSw); go_simp); (try with_reducible rfl))
        try simp only [Act.put, List.setIfInBounds_toArray, List.set_cons_zero, List.set_cons_succ]
        refine wpAnyH_take (i := 2) (oi := { dst := some 81, op := Op.load 9 (Operand.tmp 80), type := 9, pos := "law.go:107", after := #[{ on := 1, ground := Ground.data }], guard := none }) (v := ?_) rfl (by kernel_rfl) (by kernel_rfl) (by kernel_rfl) (fun _ _ _ h => h) (Or.inl ⟨by rfl, ?_⟩) (by assumption) ?_
        rotate_left
        focus ((intro w hSw; (try dsimp only at hSw); go_simp); (try with_reducible rfl))
        try simp only [Act.put, List.setIfInBounds_toArray, List.set_cons_zero, List.set_cons_succ]
        refine wpAnyH_take (i := 4) (oi := { dst := some 83, op := Op.move (Operand.tmp 0), type := 32, pos := "law.go:107", after := #[], guard := none }) (v := ?_) rfl (by kernel_rfl) (by kernel_rfl) (by kernel_rfl) (fun _ _ _ h => h) (Or.inl ⟨by rfl, ?_⟩) (by assumption) ?_
        rotate_left
        focus ((intro w hSw; (try dsimp only at hSw); go_simp); (try with_reducible rfl))
        try simp only [Act.put, List.setIfInBounds_toArray, List.set_cons_zero, List.set_cons_succ]
        refine wpAnyH_take (i := 5) (oi := { dst := some 84, op := Op.fieldAddr 35 (Operand.tmp 11) 0, type := 0, pos := "law.go:107", after := #[], guard := none }) (v := ?_) rfl (by kernel_rfl) (by kernel_rfl) (by kernel_rfl) (fun _ _ _ h => h) (Or.inl ⟨by rfl, ?_⟩) (by assumption) ?_
        rotate_left
        focus ((intro w hSw; (try dsimp only at hSw); go_simp); (try with_reducible rfl))
        try simp only [Act.put, List.setIfInBounds_toArray, List.set_cons_zero, List.set_cons_succ]
        refine wpAnyH_take (i := 6) (oi := { dst := some 85, op := Op.load 9 (Operand.tmp 84), type := 9, pos := "law.go:107", after := #[{ on := 5, ground := Ground.data }], guard := none }) (v := ?_) rfl (by kernel_rfl) (by kernel_rfl) (by kernel_rfl) (fun _ _ _ h => h) (Or.inl ⟨by rfl, ?_⟩) (by assumption) ?_
        rotate_left
        focus ((intro w hSw; (try dsimp only at hSw); go_simp); (try with_reducible rfl))
        try simp only [Act.put, List.setIfInBounds_toArray, List.set_cons_zero, List.set_cons_succ]
        refine wpAnyH_take (i := 8) (oi := { dst := some 87, op := Op.move (Operand.tmp 1), type := 32, pos := "law.go:107", after := #[], guard := none }) (v := ?_) rfl (by kernel_rfl) (by kernel_rfl) (by kernel_rfl) (fun _ _ _ h => h) (Or.inl ⟨by rfl, ?_⟩) (by assumption) ?_
        rotate_left
        focus ((intro w hSw; (try dsimp only at hSw); go_simp); (try with_reducible rfl))
        try simp only [Act.put, List.setIfInBounds_toArray, List.set_cons_zero, List.set_cons_succ]
        refine wpAnyH_take (i := 9) (oi := { dst := some 88, op := Op.fieldAddr 35 (Operand.tmp 11) 0, type := 0, pos := "law.go:107", after := #[], guard := none }) (v := ?_) rfl (by kernel_rfl) (by kernel_rfl) (by kernel_rfl) (fun _ _ _ h => h) (Or.inl ⟨by rfl, ?_⟩) (by assumption) ?_
        rotate_left
        focus ((intro w hSw; (try dsimp only at hSw); go_simp); (try with_reducible rfl))
        try simp only [Act.put, List.setIfInBounds_toArray, List.set_cons_zero, List.set_cons_succ]
        refine wpAnyH_take (i := 10) (oi := { dst := some 89, op := Op.load 9 (Operand.tmp 88), type := 9, pos := "law.go:107", after := #[{ on := 9, ground := Ground.data }], guard := none }) (v := ?_) rfl (by kernel_rfl) (by kernel_rfl) (by kernel_rfl) (fun _ _ _ h => h) (Or.inl ⟨by rfl, ?_⟩) (by assumption) ?_
        rotate_left
        focus ((intro w hSw; (try dsimp only at hSw); go_simp); (try with_reducible rfl))
        try simp only [Act.put, List.setIfInBounds_toArray, List.set_cons_zero, List.set_cons_succ]
        refine wpAnyH_ready (rs := [3]) (by kernel_rfl) (by simp) ?_
        refine AllReadyH.cons (o := { dst := some 82, op := Op.call { callee := Callee.value (Operand.func 26), args := #[Operand.tmp 79, Operand.tmp 81], argTypes := #[32, 9] }, type := 33, pos := "law.go:107", after := #[{ on := 0, ground := Ground.data }, { on := 2, ground := Ground.data }], guard := none }) rfl (fun K hK => ?_) AllReadyH.nil
        clear hHeld
        go_simp
        refine (AX.out ck _ _ _ (HG.out.below (H8.out.trans (HBc.out.mono H8.out.size))) (HXR.out.belowAt HBc.out (Nat.le_refl _))).mono ?_
        rintro _ wx ⟨rfl, hB1⟩
        replace HTc := Lib.hid (TwoAt.below HTc.out hB1)
        replace HBc := Lib.hid (HBc.out.trans (hB1.mono HBc.out.size))
        clear q1 q2 q3 q4 hB1
        obtain ⟨q1, q2, q3, q4⟩ := HTc.out.cells
        go_wp2_with fail
        refine hK.out _ _ (by (try dsimp only); exact q1) (fun hHeld => ?_)
        clear hK K
        try simp only [Act.put, List.setIfInBounds_toArray, List.set_cons_zero, List.set_cons_succ]
        refine wpAnyH_ready (rs := [7]) (by kernel_rfl) (by simp) ?_
        refine AllReadyH.cons (o := { dst := some 86, op := Op.call { callee := Callee.value (Operand.func 26), args := #[Operand.tmp 83, Operand.tmp 85], argTypes := #[32, 9] }, type := 33, pos := "law.go:107", after := #[{ on := 4, ground := Ground.data }, { on := 6, ground := Ground.data }, { on := 3, ground := Ground.chain }], guard := none }) rfl (fun K hK => ?_) AllReadyH.nil
        clear hHeld
        go_simp
        refine (AA.out ck _ _ _ (HG.out.below (H8.out.trans (HBc.out.mono H8.out.size))) (HA.out.belowAt (H8.out.trans (HBc.out.mono H8.out.size)) (Nat.le_refl _))).mono ?_
        rintro _ wy ⟨rfl, hB1⟩
        replace HTc := Lib.hid (TwoAt.below HTc.out hB1)
        replace HBc := Lib.hid (HBc.out.trans (hB1.mono HBc.out.size))
        clear q1 q2 q3 q4 hB1
        obtain ⟨q1, q2, q3, q4⟩ := HTc.out.cells
        go_wp2_with fail
        refine hK.out _ _ (by (try dsimp only); exact q1) (fun hHeld => ?_)
        clear hK K
        try simp only [Act.put, List.setIfInBounds_toArray, List.set_cons_zero, List.set_cons_succ]
        refine wpAnyH_ready (rs := [11]) (by kernel_rfl) (by simp) ?_
        refine AllReadyH.cons (o := { dst := some 90, op := Op.call { callee := Callee.value (Operand.func 26), args := #[Operand.tmp 87, Operand.tmp 89], argTypes := #[32, 9] }, type := 33, pos := "law.go:107", after := #[{ on := 8, ground := Ground.data }, { on := 10, ground := Ground.data }, { on := 7, ground := Ground.chain }], guard := none }) rfl (fun K hK => ?_) AllReadyH.nil
        clear hHeld
        go_simp
        refine (AB.out ck _ _ _ (HG.out.below (H8.out.trans (HBc.out.mono H8.out.size))) (HB.out.belowAt (H8.out.trans (HBc.out.mono H8.out.size)) (Nat.le_refl _))).mono ?_
        rintro _ wz ⟨rfl, hB1⟩
        replace HTc := Lib.hid (TwoAt.below HTc.out hB1)
        replace HBc := Lib.hid (HBc.out.trans (hB1.mono HBc.out.size))
        clear q1 q2 q3 q4 hB1
        obtain ⟨q1, q2, q3, q4⟩ := HTc.out.cells
        go_wp2_with fail
        refine hK.out _ _ (by (try dsimp only); exact q1) (fun hHeld => ?_)
        clear hK K
        try simp only [Act.put, List.setIfInBounds_toArray, List.set_cons_zero, List.set_cons_succ]
        refine wpAnyH_ready (rs := [12]) (by kernel_rfl) (by simp) ?_
        refine AllReadyH.cons (o := { dst := some 91, op := Op.call { callee := Callee.value (Operand.func 35), args := #[Operand.tmp 86, Operand.tmp 90], argTypes := #[33, 33] }, type := 33, pos := "law.go:107", after := #[{ on := 7, ground := Ground.data }, { on := 11, ground := Ground.data }, { on := 11, ground := Ground.chain }], guard := none }) rfl (fun K hK => ?_) AllReadyH.nil
        clear hHeld
        go_simp
        refine (AD.out ck _ (HG.out.below (H8.out.trans (HBc.out.mono H8.out.size)))).mono ?_
        rintro _ wd ⟨rfl, hB1⟩
        replace HTc := Lib.hid (TwoAt.below HTc.out hB1)
        replace HBc := Lib.hid (HBc.out.trans (hB1.mono HBc.out.size))
        clear q1 q2 q3 q4 hB1
        obtain ⟨q1, q2, q3, q4⟩ := HTc.out.cells
        go_wp2_with fail
        refine hK.out _ _ (by (try dsimp only); exact q1) (fun hHeld => ?_)
        clear hK K
        try simp only [Act.put, List.setIfInBounds_toArray, List.set_cons_zero, List.set_cons_succ]
        refine wpAnyH_take (i := 13) (oi := { dst := some 92, op := Op.binOp BinOp.neq 33 (Operand.tmp 82) (Operand.tmp 91) 33, type := 4, pos := "law.go:107", after := #[{ on := 3, ground := Ground.data }, { on := 12, ground := Ground.data }], guard := none }) (v := ?_) rfl (by kernel_rfl) (by kernel_rfl) (by kernel_rfl) (fun _ _ _ h => h) (Or.inl ⟨by rfl, ?_⟩) (by assumption) ?_
        rotate_left
        focus ((intro w hSw; (try dsimp only at hSw); go_simp); (try with_reducible rfl))
        try simp only [Act.put, List.setIfInBounds_toArray, List.set_cons_zero, List.set_cons_succ]
        refine wpAnyH_done (by kernel_rfl) ?_ _
        clear hHeld
        go_wp2_with fail
        go_roundw
        case rel => exact ⟨k + 1, by omega, by simp, by rw [HSN.out]; simp, HBc⟩
        case measure => simp [intOf]; omega
    · obtain rfl : k = N := by omega
      go_wp2_with fail
      refine Calls.mono (EQ.out _ _ _ _ _ (HA.out.belowAt (H8.out.trans (HB1.out.mono H8.out.size)) (Nat.le_refl _)) (HB.out.belowAt (H8.out.trans (HB1.out.mono H8.out.size)) (Nat.le_refl _))) ?_
      rintro _ we ⟨rfl, hB⟩
      have hb := (H8.out.trans (HB1.out.mono H8.out.size))
      replace hb := hb.trans (hB.mono hb.size)
      clear hB
      obtain ⟨sm, hsm⟩ : ∃ b, sameTo A B f k = b := ⟨_, rfl⟩
      rw [hsm]
      clear hsm
      cases sm with
      | true =>
        go_wp2_with fail
        refine (HAW.out _ (HG.out.below hb)).mono ?_
        rintro _ w2 ⟨rfl, hB⟩
        go_wp2_with fail
        go_ret
        exact ⟨rfl, hb.trans (hB.mono hb.size)⟩
      | false =>
        go_wp2_with fail
        refine (HAW.out _ (HG.out.below hb)).mono ?_
        rintro _ w2 ⟨rfl, hB⟩
        go_wp2_with fail
        go_ret
        exact ⟨rfl, hb.trans (hB.mono hb.size)⟩

theorem ama_any (xa ya : Option Addr) (n m ca cb : Nat) (u v s t : Nat → ByteArray) (code : ByteArray) (w : World) (hG : Ground w) (hx : Rf w xa n u v) (hy : Rf w ya m s t) (hn : n ≤ 9223372036854775807) (hm : m ≤ 9223372036854775807) (hca : n ≤ ca) (hcb : m ≤ cb) :
    Calls Tryz.prog 8 #[.slice xa n ca, .slice ya m cb, .string code] w (ValP (.bool true) w) := by
  obtain ⟨ca, rfl⟩ : ∃ k, ca = n + k := ⟨ca - n, by omega⟩
  obtain ⟨cb, rfl⟩ : ∃ k, cb = m + k := ⟨cb - m, by omega⟩
  cases hg : (greatB n u v || greatB m s t) with
  | true => exact ama_great xa ya n m ca cb u v s t code w hG hx hy hn hm hg
  | false =>
    by_cases hl : n ≤ 6
    · by_cases hl2 : m ≤ 6
      · by_cases h1 : bagE isCan n u v = 0
        · by_cases h2 : bagE isCan m s t = 0
          · exact ama_ok xa ya n m ca cb u v s t code w hG hx hy hn hm hg hl hl2 h1 h2
          · exact ama_bad2 xa ya n m ca cb u v s t code w hG hx hy hn hm hg hl hl2 h1 h2
        · exact ama_bad1 xa ya n m ca cb u v s t code w hG hx hy hn hm hg hl hl2 h1
      · exact ama_len2 xa ya n m ca cb u v s t code w hG hx hy hn hm hg hl (by omega)
    · exact ama_len1 xa ya n m ca cb u v s t code w hG hx hy hn hm hg (by omega)

end Go.Proofs.YtahnkmkmoalbhaaGreatDoor
