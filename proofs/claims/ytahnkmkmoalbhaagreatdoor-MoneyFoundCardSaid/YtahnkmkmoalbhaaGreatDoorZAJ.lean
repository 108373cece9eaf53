/- Layer 5: amounts, bags and tables as arguments: opened and shut. -/
import Derived.Test.YtahnkmkmoalbhaaGreatDoorZAI
import Derived.Carry
import Derived.Deep.SlicePairs
import Derived.Deep.Strs
import Derived.Lib.SmallJoins
import Derived.OpenShut
import Derived.ProofKit
namespace Go.Proofs.YtahnkmkmoalbhaaGreatDoor
open Go.ChangeShapes Go.WideShapes Go.ChangeAt Go.RowKit

theorem cellsMoney : Tryz.prog.cellsOf 35 = 2 := by kernel_rfl
theorem cellsCur : Tryz.prog.cellsOf 26 = 2 := by kernel_rfl
theorem cellsInt5 : Tryz.prog.cellsOf 33 = 1 := by kernel_rfl
theorem cellsStr5 : Tryz.prog.cellsOf 9 = 1 := by kernel_rfl
theorem cellsGo5 : Tryz.prog.cellsOf 3 = 1 := by kernel_rfl
theorem underMoney : Tryz.prog.underlying 35 = some (.struct #[⟨"Currency", 9, 0, false, "", "", 0⟩, ⟨"Amount", 33, 1, false, "", "", 16⟩]) := by kernel_rfl
theorem underCur : Tryz.prog.underlying 26 = some (.struct #[⟨"Code", 9, 0, false, "", "", 0⟩, ⟨"Places", 3, 1, false, "", "", 16⟩]) := by kernel_rfl

set_option maxRecDepth 100000 in
/-- an amount as an argument: opened and shut -/
theorem open_money {H : Type} {enc : TypeId × Value → H} {w : World} {r : Reach} {b0 base : Nat} {sp : Nat → Bool} {held : Bool} {v : Value} {d : DataW H} {ps : List MemPlace} (hval : Value.okWide Tryz.prog w r b0 35 v) (hd : DataW.Trod enc Tryz.prog w base sp held 35 v d ps) :
    ∃ a b : ByteArray, v = .agg #[.string a, .string b] ∧ d = .agg [.lit (.string a.data.toList), .lit (.string b.data.toList)] ∧ ps = [] ∧ a.size ≤ maxLen ∧ b.size ≤ maxLen := by
  obtain ⟨c0, c1, y0, y1, m, rfl, rfl, rfl, hy0, hy1⟩ := Joins.open_agg2 underMoney (by kernel_rfl) cellsMoney hval hd
  obtain ⟨a, e0, rfl, wa⟩ := DataW.trod_string Tryz.underlying9 hy0
  obtain ⟨b, e1, rfl, wb⟩ := DataW.trod_string Tryz.underlying33 hy1
  simp at e0 e1
  subst e0 e1
  exact ⟨a, b, rfl, rfl, rfl, wa, wb⟩
set_option maxRecDepth 100000 in
theorem shut_money {H : Type} {enc : TypeId × Value → H} {w : World} {base : Nat} {sp : Nat → Bool} {held : Bool} {a b : ByteArray} (wa : a.size ≤ maxLen) (wb : b.size ≤ maxLen) :
    DataW.Trod enc Tryz.prog w base sp held 35 (.agg #[.string a, .string b]) (.agg [.lit (.string a.data.toList), .lit (.string b.data.toList)]) [] :=
  Joins.shut_agg2 (y0 := (.lit (.string a.data.toList), [])) (y1 := (.lit (.string b.data.toList), [])) underMoney (by kernel_rfl) cellsMoney
    ⟨1, by simp [DataW.trod, Tryz.underlying9, wa]⟩ ⟨1, by simp [DataW.trod, Tryz.underlying33, wb]⟩


set_option maxRecDepth 100000 in
/-- a slice of amounts as an argument -/
theorem open_Moneys {H : Type} {enc : TypeId × Value → H} {w : World} {r : Reach} {b0 : Nat} {v : Value} {d : DataW H} {ps : List MemPlace} (hval : Value.okWide Tryz.prog w r b0 32 v) (hd : DataW.Trod enc Tryz.prog w 0 (fun _ => true) true 32 v d ps) :
    ∃ xa n cap s t, v = .slice xa n cap ∧ Rf w xa n s t ∧ n ≤ 9223372036854775807 ∧ n ≤ cap := by
  obtain ⟨a0, len, cap, rfl⟩ := okWide_slice Tryz.underlying32 hval
  obtain ⟨fuel, hf⟩ := hd
  rcases Go.Deep.open_slice_pairs Tryz.underlying32 underMoney cellsMoney rfl rfl cellsStr5 cellsInt5 hf with ⟨hcs, hx⟩ | ⟨a, len', cap', m, n, V0, V1, D0, D1, P0, P1, hcs, _, hl, hm, hmm, hx, hcell⟩
  · simp [Value.cells] at hcs
    obtain ⟨rfl, rfl, rfl⟩ := hcs
    exact ⟨none, 0, 0, fun _ => ⟨#[]⟩, fun _ => ⟨#[]⟩, rfl, Rc.nil _ _ _, by omega, by omega⟩
  · simp [Value.cells] at hcs
    obtain ⟨rfl, rfl, rfl⟩ := hcs
    simp only [if_true] at hmm
    have hmm2 : cap = m := hmm.symm
    subst hmm2
    have each : ∀ i, i < len → ∃ q : ByteArray × ByteArray, V0 i = .string q.1 ∧ V1 i = .string q.2 := fun i hi => by
      obtain ⟨_, _, t0, t1⟩ := hcell i (by omega)
      obtain ⟨x, e0, _, _⟩ := DataW.trod_string Tryz.underlying9 t0
      obtain ⟨y, e1, _, _⟩ := DataW.trod_string Tryz.underlying33 t1
      simp at e0 e1
      exact ⟨(x, y), e0, e1⟩
    obtain ⟨q, hq⟩ := Go.Deep.choose_lt each
    refine ⟨some a, len, cap, fun i => (q i).1, fun i => (q i).2, rfl, ⟨fun h0 => ?_⟩, by unfold maxLen at hm; omega, hl⟩
    obtain ⟨b, off, spot⟩ := a
    have hspot : spot = none := by simpa [Addr.add] using World.cell?_spot (hcell 0 (by omega)).1
    subst hspot
    have add : ∀ i, (⟨b, off, none⟩ : Addr).add i = ⟨b, off + i, none⟩ := fun i => by unfold Addr.add; split <;> simp_all
    have hc : ∀ i, i < len * 2 → w.cell? ⟨b, off + i, none⟩ = some (.string (if i % 2 = 0 then (q (i / 2)).1 else (q (i / 2)).2)) := fun i hi => by
      obtain ⟨h1, h2, _, _⟩ := hcell (i / 2) (by omega)
      rw [add, (hq (i / 2) (by omega)).1] at h1
      rw [add, (hq (i / 2) (by omega)).2] at h2
      by_cases e : i % 2 = 0
      · rw [if_pos e, ← h1]; congr 2; omega
      · rw [if_neg e, ← h2]; congr 2; omega
    exact ⟨b, off, rfl, World.block_lt_of_cell? w ⟨b, off + 0, none⟩ (hc 0 h0), hc⟩

set_option maxRecDepth 100000 in
/-- a table as an argument -/
theorem open_Currs {H : Type} {enc : TypeId × Value → H} {w : World} {r : Reach} {b0 : Nat} {v : Value} {d : DataW H} {ps : List MemPlace} (hval : Value.okWide Tryz.prog w r b0 22 v) (hd : DataW.Trod enc Tryz.prog w 0 (fun _ => true) true 22 v d ps) :
    ∃ xa n cap s t, v = .slice xa n cap ∧ Rt w xa n s t ∧ n ≤ 9223372036854775807 ∧ n ≤ cap := by
  obtain ⟨a0, len, cap, rfl⟩ := okWide_slice Tryz.underlying22 hval
  obtain ⟨fuel, hf⟩ := hd
  rcases Go.Deep.open_slice_pairs Tryz.underlying22 underCur cellsCur rfl rfl cellsStr5 cellsGo5 hf with ⟨hcs, hx⟩ | ⟨a, len', cap', m, n, V0, V1, D0, D1, P0, P1, hcs, _, hl, hm, hmm, hx, hcell⟩
  · simp [Value.cells] at hcs
    obtain ⟨rfl, rfl, rfl⟩ := hcs
    exact ⟨none, 0, 0, fun _ => ⟨#[]⟩, fun _ => 0, rfl, Rc.nil _ _ _, by omega, by omega⟩
  · simp [Value.cells] at hcs
    obtain ⟨rfl, rfl, rfl⟩ := hcs
    simp only [if_true] at hmm
    have hmm2 : cap = m := hmm.symm
    subst hmm2
    have each : ∀ i, i < len → ∃ q : ByteArray × Int, V0 i = .string q.1 ∧ V1 i = .int .i64 q.2 := fun i hi => by
      obtain ⟨_, _, t0, t1⟩ := hcell i (by omega)
      obtain ⟨x, e0, _, _⟩ := DataW.trod_string Tryz.underlying9 t0
      obtain ⟨y, e1, _, _⟩ := DataW.trod_int Tryz.underlying3 t1
      simp at e0 e1
      exact ⟨(x, y), e0, e1⟩
    obtain ⟨q, hq⟩ := Go.Deep.choose_lt each
    refine ⟨some a, len, cap, fun i => (q i).1, fun i => (q i).2, rfl, ⟨fun h0 => ?_⟩, by unfold maxLen at hm; omega, hl⟩
    obtain ⟨b, off, spot⟩ := a
    have hspot : spot = none := by simpa [Addr.add] using World.cell?_spot (hcell 0 (by omega)).1
    subst hspot
    have add : ∀ i, (⟨b, off, none⟩ : Addr).add i = ⟨b, off + i, none⟩ := fun i => by unfold Addr.add; split <;> simp_all
    have hc : ∀ i, i < len * 2 → w.cell? ⟨b, off + i, none⟩ = some (if i % 2 = 0 then .string (q (i / 2)).1 else .int .i64 (q (i / 2)).2) := fun i hi => by
      obtain ⟨h1, h2, _, _⟩ := hcell (i / 2) (by omega)
      rw [add, (hq (i / 2) (by omega)).1] at h1
      rw [add, (hq (i / 2) (by omega)).2] at h2
      by_cases e : i % 2 = 0
      · rw [if_pos e, ← h1]; congr 2; omega
      · rw [if_neg e, ← h2]; congr 2; omega
    exact ⟨b, off, rfl, World.block_lt_of_cell? w ⟨b, off + 0, none⟩ (hc 0 h0), hc⟩

end Go.Proofs.YtahnkmkmoalbhaaGreatDoor

/- Layer 5, the program: isCode, checkMoney, Find: the walks. -/
namespace Go.Proofs.YtahnkmkmoalbhaaGreatDoor
open Go.RowKit

set_option maxRecDepth 100000 in
set_option maxHeartbeats 8000000 in
theorem pCode (s : ByteArray) (w : World) (hs : s.size ≤ 1000000) :
    Calls Tryz.prog 64 #[.string s] w fun e w' => e = .returned (.bool (codeS s)) ∧ w = w' := by
  have _ := hs
  by_cases h3 : s.size = 3
  · have H3 := Lib.hid h3
    have hi : ((s.size : Int) != 3) = false := by rw [h3]; rfl
    clear h3
    go_enter Tryz.func64, Tryz.ntmps64
    go_wp2_with fail
    go_loop [7] (fun i => ∃ k : Nat, k ≤ 3 ∧ i = .int .i64 k ∧ (s.data.toList.take k).all isLet = true) (fun i => 3 - (intOf i).toNat)
    case atStart => exact ⟨0, Nat.zero_le _, rfl, rfl⟩
    case round =>
      obtain ⟨k, hk, rfl, ha⟩ := hrel
      have HA := Lib.hid ha
      clear ha
      by_cases hlt : k < 3
      · have hls : k < s.size := by rw [H3.out]; exact hlt
        have hlt' : k < s.data.toList.length := by rw [size_toList]; exact hls
        have HB := Lib.hid (byte_at s k hls hlt')
        by_cases b1 : ((s[k]'hls).toNat : Int) < 65
        · have HE := Lib.hid (show codeS s = false by
            unfold codeS
            rw [not_all_here hlt' (by rw [HB.out]; unfold isLet; exact decide_eq_false (by omega))]; rfl)
          clear HB hlt' HA
          go_wp2
          go_ret
          exact ⟨by rw [HE.out]; rfl, rfl⟩
        · by_cases b2 : 90 < ((s[k]'hls).toNat : Int)
          · have HE := Lib.hid (show codeS s = false by
              unfold codeS
              rw [not_all_here hlt' (by rw [HB.out]; unfold isLet; exact decide_eq_false (by omega))]; rfl)
            clear HB hlt' HA
            go_wp2
            go_ret
            exact ⟨by rw [HE.out]; rfl, rfl⟩
          · have H := Lib.hid (all_take_next HA.out hlt' (by rw [HB.out]; unfold isLet; exact decide_eq_true (by omega)))
            clear HB hlt' HA
            go_wp2
            go_round
            case rel => exact ⟨k + 1, by omega, by go_num, H.out⟩
            case measure => simp [intOf]; omega
      · obtain rfl : k = 3 := by omega
        have HE := Lib.hid (show codeS s = true by
          unfold codeS
          have := HA.out
          rw [List.take_of_length_le (by rw [size_toList, H3.out]; exact Nat.le_refl _)] at this
          rw [this, H3.out]; rfl)
        clear HA
        go_wp2
        go_ret
        exact ⟨by rw [HE.out]; rfl, rfl⟩
  · have HE := Lib.hid (show codeS s = false by unfold codeS; rw [decide_eq_false h3]; simp)
    have hi : ((s.size : Int) != 3) = true := by rw [bne_iff_ne]; omega
    clear h3
    go_enter Tryz.func64, Tryz.ntmps64
    go_wp2_with fail
    go_ret
    exact ⟨by rw [HE.out]; rfl, rfl⟩

/-- why an amount is wrong -/
def monC (u v : ByteArray) : Int := if codeS u = false then 23 else chk v
set_option maxRecDepth 100000 in
set_option maxHeartbeats 8000000 in
theorem pMon (u v : ByteArray) (w : World) (hu : u.size ≤ 1000000) (hv : v.size ≤ 1000000) :
    Calls Tryz.prog 53 #[.agg #[.string u, .string v]] w fun e w' => e = .returned (.int .i64 (monC u v)) ∧ Below w.heap.size w w' := by
  obtain ⟨W0, hW0⟩ : ∃ W, W = w.alloc (.cells #[.string u, .string v] 35) := ⟨_, rfl⟩
  have HX := Lib.hid (show PairAt W0 w.heap.size 35 u v by rw [hW0]; exact PairAt.made _ _ _ _)
  have HB := Lib.hid (show Below w.heap.size w W0 by rw [hW0]; exact (Below.refl _ _).alloc (Nat.le_refl _) _)
  have HCO := Lib.hid (fun W => pCode u W hu)
  have HCK := Lib.hid (fun W => check_any v W (by omega))
  unfold monC
  cases h1 : codeS u with
  | false =>
    rw [h1] at HCO
    rw [if_pos rfl]
    clear h1
    go_enter Tryz.func53, Tryz.ntmps53
    go_upto_region 1 with fail
    rw [← hW0]
    clear hW0
    obtain ⟨q1, q2, _, _⟩ := HX.out.cells
    go_wp2_with fail
    refine (HCO.out _).mono ?_
    rintro _ _ ⟨rfl, rfl⟩
    go_wp2_with fail
    go_ret
    exact ⟨rfl, HB.out⟩
  | true =>
    rw [h1] at HCO
    rw [if_neg (by decide)]
    obtain ⟨c, hc⟩ : ∃ c, chk v = c := ⟨_, rfl⟩
    rw [hc] at HCK ⊢
    clear h1 hc
    go_enter Tryz.func53, Tryz.ntmps53
    go_upto_region 1 with fail
    rw [← hW0]
    clear hW0
    obtain ⟨q1, q2, _, _⟩ := HX.out.cells
    go_wp2_with fail
    refine (HCO.out _).mono ?_
    rintro _ _ ⟨rfl, rfl⟩
    go_wp2_with fail
    refine (HCK.out _).mono ?_
    rintro _ _ ⟨rfl, rfl⟩
    go_wp2_with fail
    go_ret
    exact ⟨rfl, HB.out⟩

/-! ### Find -/
set_option maxRecDepth 100000 in
set_option maxHeartbeats 8000000 in
theorem pFind1 (w : World) (B : Nat) (c x : ByteArray) (p : Int) (hB : w.cell? ⟨B, 0, none⟩ = some (.string x)) :
    Calls Tryz.prog 47 #[.agg #[.string c, .int .i64 p], .pointer (some ⟨B, 0, none⟩)] w fun e w' => e = .returned (.bool (decide (c = x))) ∧ Below w.heap.size w w' := by
  obtain ⟨W0, hW0⟩ : ∃ W, W = w.alloc (.cells #[.string c, .int .i64 p] 26) := ⟨_, rfl⟩
  have HX := Lib.hid (show TwoAt W0 w.heap.size 26 (.string c) (.int .i64 p) by rw [hW0]; exact TwoAt.made _ _ _ _)
  have hb0 : Below w.heap.size w W0 := by rw [hW0]; exact (Below.refl _ _).alloc (Nat.le_refl _) _
  have HB := Lib.hid hb0
  have hlt := World.block_lt_of_cell? w ⟨B, 0, none⟩ hB
  have hB2 := (hb0.cell (p := ⟨B, 0, none⟩) hlt).trans hB
  have heq := beq_toList c x
  obtain ⟨d, hd⟩ : ∃ d, decide (c = x) = d := ⟨_, rfl⟩
  rw [hd] at heq ⊢
  clear hb0 hB hlt hd
  go_enter Tryz.func47, Tryz.ntmps47
  go_upto_region 1 with fail
  rw [← hW0]
  clear hW0
  obtain ⟨q1, q2, _, _⟩ := HX.out.cells
  go_wp2_with fail
  go_ret
  exact ⟨rfl, HB.out⟩

theorem two_new (w : World) (t : TypeId) (x y : Value) : TwoAt (w.alloc (.cells #[x, y] t)) w.heap.size t x y ∧ Below w.heap.size w (w.alloc (.cells #[x, y] t)) :=
  ⟨TwoAt.made w t x y, (Below.refl _ w).alloc (Nat.le_refl _) _⟩

set_option maxRecDepth 100000 in
set_option maxHeartbeats 16000000 in
theorem pFirstC (w : World) (xa : Option Addr) (n cap : Nat) (c : Nat → ByteArray) (p : Nat → Int) (B : Nat) (x : ByteArray) (hr : Rt w xa n c p) (hB : w.cell? ⟨B, 0, none⟩ = some (.string x)) (hmax : n ≤ 9223372036854775807) :
    Calls Tryz.prog 46 #[.slice xa n cap, .func (.func 47) #[] #[.pointer (some ⟨B, 0, none⟩)]] w fun e w' => e = .returned (curV c p (curI n c x)) ∧ Below w.heap.size w w' := by
  have HR := Lib.hid hr
  have hBl := World.block_lt_of_cell? w ⟨B, 0, none⟩ hB
  have HBX := Lib.hid hB
  have HBL := Lib.hid hBl
  obtain ⟨S0, hS0⟩ : ∃ s, w.heap.size = s := ⟨_, rfl⟩
  obtain ⟨W0, hW0⟩ : ∃ W, W = w.alloc (.cells #[.string ⟨#[]⟩, .int .i64 0] 26) := ⟨_, rfl⟩
  have HX := Lib.hid (show TwoAt W0 S0 26 (.string ⟨#[]⟩) (.int .i64 0) by rw [hW0, ← hS0]; exact TwoAt.made _ _ _ _)
  have HB := Lib.hid (show Below w.heap.size w W0 by rw [hW0]; exact (Below.refl _ _).alloc (Nat.le_refl _) _)
  have HS := Lib.hid hS0
  clear hr hB hBl
  go_enter Tryz.func46, Tryz.ntmps46
  go_upto_region 1 with fail
  try rw [hS0]
  rw [← hW0]
  clear hW0
  go_wp2_with fail
  go_loopw [11] (fun iv wr => ∃ k : Nat, k ≤ n ∧ iv = .int .i64 (k : Int) ∧ Hid (∀ i, i < k → c i ≠ x) ∧ Hid (TwoAt wr S0 26 (.string ⟨#[]⟩) (.int .i64 0)) ∧ Hid (Below w.heap.size w wr)) (fun iv _ => n - (intOf iv).toNat)
  case atStart => exact ⟨0, Nat.zero_le _, rfl, Lib.hid (fun i hi => absurd hi (by omega)), HX, HB⟩
  case round =>
    clear HX HB
    obtain ⟨k, hk, rfl, HA, HX, HB⟩ := hrel
    by_cases hlt : k < n
    · have hw1 : IntKind.i64.wrap ((k : Int) + 1) = (k : Int) + 1 := IntWalk.i64_in _ (by omega)
      obtain ⟨b, o, rfl, hb, y1, y2⟩ := Rt.at HR.out hlt
      have z1 := (HB.out.cell (p := ⟨b, o + k * 2, none⟩) hb).trans y1
      have z2 := (HB.out.cell (p := ⟨b, o + k * 2 + 1, none⟩) hb).trans y2
      obtain ⟨uk, huk⟩ : ∃ y, c k = y := ⟨_, rfl⟩
      obtain ⟨pk, hpk⟩ : ∃ q, p k = q := ⟨_, rfl⟩
      rw [huk] at z1
      rw [hpk] at z2
      obtain ⟨W1, hW1⟩ : ∃ W, W = wr.alloc (.cells #[.string uk, .int .i64 pk] 26) := ⟨_, rfl⟩
      have h2 := two_new wr 26 (.string uk) (.int .i64 pk)
      rw [← hW1] at h2
      obtain ⟨E1, hE1⟩ : ∃ s, wr.heap.size = s := ⟨_, rfl⟩
      have HE := Lib.hid (show TwoAt W1 E1 26 (.string uk) (.int .i64 pk) by rw [← hE1]; exact h2.1)
      have HX1 := Lib.hid (HX.out.below h2.2)
      have HB1 := Lib.hid (HB.out.trans (h2.2.mono HB.out.size))
      have HF := Lib.hid (pFind1 W1 B uk x pk ((HB1.out.cell (p := ⟨B, 0, none⟩) HBL.out).trans HBX.out))
      have HUK := Lib.hid huk
      have HPK := Lib.hid hpk
      have hlt' : (k : Int) < (n : Int) := by omega
      clear huk hpk h2 y1 y2 HX HB
      go_upto_region 4 with fail
      rw [← hW1]
      try rw [hE1]
      clear hW1
      obtain ⟨k0, k1, _, _⟩ := HE.out.cells
      go_wp2_with fail
      refine HF.out.mono ?_
      rintro _ W2 ⟨rfl, hB2⟩
      have HE2 := Lib.hid (HE.out.below hB2)
      have HX2 := Lib.hid (HX1.out.below hB2)
      have HB2 := Lib.hid (HB1.out.trans (hB2.mono HB1.out.size))
      clear hB2 k0 k1 HE HX1 HB1 HF
      by_cases he : uk = x
      · have HEV := Lib.hid (show curV c p (curI n c x) = .tuple #[.agg #[.string x, .int .i64 pk], .bool true] by
          rw [curI_at hlt (HUK.out.trans he) HA.out]
          show Value.tuple #[.agg #[.string (c k), .int .i64 (p k)], .bool true] = _
          rw [HUK.out, he, HPK.out])
        have hP := HX2.out.put (.string x) (.int .i64 pk)
        rw [he] at HE2
        have hbs : w.heap.size ≤ S0 := by have := HS.out; omega
        have HBN := Lib.hid ((HB2.out.setCell (p := ⟨S0, 0, none⟩) hbs (.string x)).setCell (p := ⟨S0, 1, none⟩) hbs (.int .i64 pk))
        obtain ⟨k0, k1, _, _⟩ := HE2.out.cells
        obtain ⟨m0, m1, m2, m3⟩ := HX2.out.cells
        obtain ⟨l0, l1, _, _⟩ := hP.cells
        rw [decide_eq_true he]
        clear he HUK HPK HA hP
        go_wp2_with fail
        (try simp only [Exit.inBlock, Exit.then])
        exact bodyPost_ret (v := .tuple #[.agg #[.string x, .int .i64 pk], .bool true]) (by simp [results, Tryz.results46, go_sem, l0, l1]) rfl ⟨by rw [HEV.out], HBN.out⟩
      · have HA2 := Lib.hid (show ∀ i, i < k + 1 → c i ≠ x from fun i hi => by
          by_cases e : i = k
          · rw [e, HUK.out]; exact he
          · exact HA.out i (by omega))
        rw [decide_eq_false he]
        clear he HUK HPK HA
        go_wp2_with fail
        go_roundw
        case rel => exact ⟨k + 1, by omega, by simp, HA2, HX2, HB2⟩
        case measure => simp [intOf]; omega
    · obtain rfl : k = n := by omega
      have HEV := Lib.hid (show curV c p (curI k c x) = .tuple #[.agg #[.string ⟨#[]⟩, .int .i64 0], .bool false] by rw [curI_none HA.out]; rfl)
      obtain ⟨W1, hW1⟩ : ∃ W, W = wr.alloc (.cells #[.string ⟨#[]⟩, .int .i64 0] 26) := ⟨_, rfl⟩
      have hb1 : Below wr.heap.size wr W1 := by rw [hW1]; exact (Below.refl _ _).alloc (Nat.le_refl _) _
      obtain ⟨E1, hE1⟩ : ∃ s, wr.heap.size = s := ⟨_, rfl⟩
      have HE := Lib.hid (show TwoAt W1 E1 26 (.string ⟨#[]⟩) (.int .i64 0) by rw [hW1, ← hE1]; exact TwoAt.made _ _ _ _)
      have HX1 := Lib.hid (HX.out.below hb1)
      have hbs : w.heap.size ≤ S0 := by have := HS.out; omega
      have hP := HX1.out.put (.string ⟨#[]⟩) (.int .i64 0)
      have HBN := Lib.hid (((HB.out.trans (hb1.mono HB.out.size)).setCell (p := ⟨S0, 0, none⟩) hbs (.string ⟨#[]⟩)).setCell (p := ⟨S0, 1, none⟩) hbs (.int .i64 0))
      obtain ⟨l0, l1, _, _⟩ := hP.cells
      clear HA hP hb1 HX HB
      go_upto_region 8 with fail
      rw [← hW1]
      try rw [hE1]
      clear hW1
      obtain ⟨k0, k1, _, _⟩ := HE.out.cells
      obtain ⟨m0, m1, m2, m3⟩ := HX1.out.cells
      go_wp2_with fail
      (try simp only [Exit.inBlock, Exit.then])
      exact bodyPost_ret (v := .tuple #[.agg #[.string ⟨#[]⟩, .int .i64 0], .bool false]) (by simp [results, Tryz.results46, go_sem, l0, l1]) rfl ⟨by rw [HEV.out], HBN.out⟩

set_option maxRecDepth 100000 in
set_option maxHeartbeats 16000000 in
theorem pFind (w : World) (xa : Option Addr) (n cap : Nat) (c : Nat → ByteArray) (p : Nat → Int) (x : ByteArray) (hr : Rt w xa n c p) (hmax : n ≤ 9223372036854775807) :
    Calls Tryz.prog 14 #[.slice xa n cap, .string x] w fun e w' => e = .returned (curV c p (curI n c x)) ∧ Below w.heap.size w w' := by
  obtain ⟨W1, hW1⟩ : ∃ W, W = w.alloc (.cells #[.string x] 9) := ⟨_, rfl⟩
  obtain ⟨W2, hW2⟩ : ∃ W, W = W1.alloc (.cells #[.string ⟨#[]⟩, .int .i64 0] 26) := ⟨_, rfl⟩
  obtain ⟨B0, hB0⟩ : ∃ s, w.heap.size = s := ⟨_, rfl⟩
  obtain ⟨S0, hS0⟩ : ∃ s, B0 + 1 = s := ⟨_, rfl⟩
  have hs1 : W1.heap.size = w.heap.size + 1 := by rw [hW1]; exact World.size_alloc _ _
  have hbx : Boxed W1 B0 9 (.string x) := by rw [hW1, ← hB0]; exact Boxed.new _ _ _
  have hb1 : Below w.heap.size w W1 := by rw [hW1]; exact (Below.refl _ _).alloc (Nat.le_refl _) _
  have hb12 : Below W1.heap.size W1 W2 := by rw [hW2]; exact (Below.refl _ _).alloc (Nat.le_refl _) _
  have hb2 : Below w.heap.size w W2 := hb1.trans (hb12.mono hb1.size)
  have HX := Lib.hid (show TwoAt W2 S0 26 (.string ⟨#[]⟩) (.int .i64 0) by rw [hW2, ← hS0, ← hB0, ← hs1]; exact TwoAt.made _ _ _ _)
  have hbx2 := (hb12.cell (p := ⟨B0, 0, none⟩) hbx.lt).trans hbx.cell
  have HF := Lib.hid (pFirstC W2 xa n cap c p B0 x (hr.belowAt hb2 (Nat.le_refl _)) hbx2 hmax)
  have HB := Lib.hid hb2
  have hbs : w.heap.size ≤ S0 := by omega
  obtain ⟨k0, k1, hv⟩ : ∃ y q, ∃ i, curV c p (curI n c x) = .tuple #[.agg #[.string y, .int .i64 q], .bool i] := by
    cases curI n c x with
    | none => exact ⟨_, _, _, rfl⟩
    | some i => exact ⟨_, _, _, rfl⟩
  obtain ⟨i, hv⟩ := hv
  rw [hv] at HF ⊢
  clear hr hbx hb1 hb12 hb2 hv hs1 hbx2
  go_enter Tryz.func14, Tryz.ntmps14
  go_upto_region 1 with fail
  rw [← hW1, ← hW2]
  try rw [hB0]
  try rw [hS0]
  clear hW1 hW2
  go_wp2_with fail
  refine HF.out.mono ?_
  rintro _ W3 ⟨rfl, hB3⟩
  have hX3 := HX.out.below hB3
  have hP := hX3.put (.string k0) (.int .i64 k1)
  have HBN := Lib.hid ((((HB.out.trans (hB3.mono HB.out.size))).setCell (p := ⟨S0, 0, none⟩) hbs (.string k0)).setCell (p := ⟨S0, 1, none⟩) hbs (.int .i64 k1))
  obtain ⟨m0, m1, m2, m3⟩ := hX3.cells
  obtain ⟨l0, l1, _, _⟩ := hP.cells
  clear hP hX3 hB3
  go_wp2_with fail
  (try simp only [Exit.inBlock, Exit.then])
  exact bodyPost_ret (v := .tuple #[.agg #[.string k0, .int .i64 k1], .bool i]) (by simp [results, Tryz.results14, go_sem, l0, l1]) rfl ⟨rfl, HBN.out⟩

end Go.Proofs.YtahnkmkmoalbhaaGreatDoor

/- Layer 5, the program: Amount, CheckTable, Check: the walks. -/
namespace Go.Proofs.YtahnkmkmoalbhaaGreatDoor
open Go.RowKit

/-- the first amount with this code -/
def monV (u v : Nat → ByteArray) : Option Nat → Value
  | some i => .tuple #[.agg #[.string (u i), .string (v i)], .bool true]
  | none => .tuple #[.agg #[.string ⟨#[]⟩, .string ⟨#[]⟩], .bool false]
set_option maxRecDepth 100000 in
set_option maxHeartbeats 8000000 in
theorem pAmt1 (w : World) (B : Nat) (c x : ByteArray) (p : ByteArray) (hB : w.cell? ⟨B, 0, none⟩ = some (.string x)) :
    Calls Tryz.prog 60 #[.agg #[.string c, .string p], .pointer (some ⟨B, 0, none⟩)] w fun e w' => e = .returned (.bool (decide (c = x))) ∧ Below w.heap.size w w' := by
  obtain ⟨W0, hW0⟩ : ∃ W, W = w.alloc (.cells #[.string c, .string p] 35) := ⟨_, rfl⟩
  have HX := Lib.hid (show TwoAt W0 w.heap.size 35 (.string c) (.string p) by rw [hW0]; exact TwoAt.made _ _ _ _)
  have hb0 : Below w.heap.size w W0 := by rw [hW0]; exact (Below.refl _ _).alloc (Nat.le_refl _) _
  have HB := Lib.hid hb0
  have hlt := World.block_lt_of_cell? w ⟨B, 0, none⟩ hB
  have hB2 := (hb0.cell (p := ⟨B, 0, none⟩) hlt).trans hB
  have heq := beq_toList c x
  obtain ⟨d, hd⟩ : ∃ d, decide (c = x) = d := ⟨_, rfl⟩
  rw [hd] at heq ⊢
  clear hb0 hB hlt hd
  go_enter Tryz.func60, Tryz.ntmps60
  go_upto_region 1 with fail
  rw [← hW0]
  clear hW0
  obtain ⟨q1, q2, _, _⟩ := HX.out.cells
  go_wp2_with fail
  go_ret
  exact ⟨rfl, HB.out⟩

set_option maxRecDepth 100000 in
set_option maxHeartbeats 16000000 in
theorem pFirstM (w : World) (xa : Option Addr) (n cap : Nat) (c : Nat → ByteArray) (p : Nat → ByteArray) (B : Nat) (x : ByteArray) (hr : Rf w xa n c p) (hB : w.cell? ⟨B, 0, none⟩ = some (.string x)) (hmax : n ≤ 9223372036854775807) :
    Calls Tryz.prog 59 #[.slice xa n cap, .func (.func 60) #[] #[.pointer (some ⟨B, 0, none⟩)]] w fun e w' => e = .returned (monV c p (curI n c x)) ∧ Below w.heap.size w w' := by
  have HR := Lib.hid hr
  have hBl := World.block_lt_of_cell? w ⟨B, 0, none⟩ hB
  have HBX := Lib.hid hB
  have HBL := Lib.hid hBl
  obtain ⟨S0, hS0⟩ : ∃ s, w.heap.size = s := ⟨_, rfl⟩
  obtain ⟨W0, hW0⟩ : ∃ W, W = w.alloc (.cells #[.string ⟨#[]⟩, .string ⟨#[]⟩] 35) := ⟨_, rfl⟩
  have HX := Lib.hid (show TwoAt W0 S0 35 (.string ⟨#[]⟩) (.string ⟨#[]⟩) by rw [hW0, ← hS0]; exact TwoAt.made _ _ _ _)
  have HB := Lib.hid (show Below w.heap.size w W0 by rw [hW0]; exact (Below.refl _ _).alloc (Nat.le_refl _) _)
  have HS := Lib.hid hS0
  clear hr hB hBl
  go_enter Tryz.func59, Tryz.ntmps59
  go_upto_region 1 with fail
  try rw [hS0]
  rw [← hW0]
  clear hW0
  go_wp2_with fail
  go_loopw [11] (fun iv wr => ∃ k : Nat, k ≤ n ∧ iv = .int .i64 (k : Int) ∧ Hid (∀ i, i < k → c i ≠ x) ∧ Hid (TwoAt wr S0 35 (.string ⟨#[]⟩) (.string ⟨#[]⟩)) ∧ Hid (Below w.heap.size w wr)) (fun iv _ => n - (intOf iv).toNat)
  case atStart => exact ⟨0, Nat.zero_le _, rfl, Lib.hid (fun i hi => absurd hi (by omega)), HX, HB⟩
  case round =>
    clear HX HB
    obtain ⟨k, hk, rfl, HA, HX, HB⟩ := hrel
    by_cases hlt : k < n
    · have hw1 : IntKind.i64.wrap ((k : Int) + 1) = (k : Int) + 1 := IntWalk.i64_in _ (by omega)
      obtain ⟨b, o, rfl, hb, y1, y2⟩ := Rf.at HR.out hlt
      have z1 := (HB.out.cell (p := ⟨b, o + k * 2, none⟩) hb).trans y1
      have z2 := (HB.out.cell (p := ⟨b, o + k * 2 + 1, none⟩) hb).trans y2
      obtain ⟨uk, huk⟩ : ∃ y, c k = y := ⟨_, rfl⟩
      obtain ⟨pk, hpk⟩ : ∃ q, p k = q := ⟨_, rfl⟩
      rw [huk] at z1
      rw [hpk] at z2
      obtain ⟨W1, hW1⟩ : ∃ W, W = wr.alloc (.cells #[.string uk, .string pk] 35) := ⟨_, rfl⟩
      have h2 := two_new wr 35 (.string uk) (.string pk)
      rw [← hW1] at h2
      obtain ⟨E1, hE1⟩ : ∃ s, wr.heap.size = s := ⟨_, rfl⟩
      have HE := Lib.hid (show TwoAt W1 E1 35 (.string uk) (.string pk) by rw [← hE1]; exact h2.1)
      have HX1 := Lib.hid (HX.out.below h2.2)
      have HB1 := Lib.hid (HB.out.trans (h2.2.mono HB.out.size))
      have HF := Lib.hid (pAmt1 W1 B uk x pk ((HB1.out.cell (p := ⟨B, 0, none⟩) HBL.out).trans HBX.out))
      have HUK := Lib.hid huk
      have HPK := Lib.hid hpk
      have hlt' : (k : Int) < (n : Int) := by omega
      clear huk hpk h2 y1 y2 HX HB
      go_upto_region 4 with fail
      rw [← hW1]
      try rw [hE1]
      clear hW1
      obtain ⟨k0, k1, _, _⟩ := HE.out.cells
      go_wp2_with fail
      refine HF.out.mono ?_
      rintro _ W2 ⟨rfl, hB2⟩
      have HE2 := Lib.hid (HE.out.below hB2)
      have HX2 := Lib.hid (HX1.out.below hB2)
      have HB2 := Lib.hid (HB1.out.trans (hB2.mono HB1.out.size))
      clear hB2 k0 k1 HE HX1 HB1 HF
      by_cases he : uk = x
      · have HEV := Lib.hid (show monV c p (curI n c x) = .tuple #[.agg #[.string x, .string pk], .bool true] by
          rw [curI_at hlt (HUK.out.trans he) HA.out]
          show Value.tuple #[.agg #[.string (c k), .string (p k)], .bool true] = _
          rw [HUK.out, he, HPK.out])
        have hP := HX2.out.put (.string x) (.string pk)
        rw [he] at HE2
        have hbs : w.heap.size ≤ S0 := by have := HS.out; omega
        have HBN := Lib.hid ((HB2.out.setCell (p := ⟨S0, 0, none⟩) hbs (.string x)).setCell (p := ⟨S0, 1, none⟩) hbs (.string pk))
        obtain ⟨k0, k1, _, _⟩ := HE2.out.cells
        obtain ⟨m0, m1, m2, m3⟩ := HX2.out.cells
        obtain ⟨l0, l1, _, _⟩ := hP.cells
        rw [decide_eq_true he]
        clear he HUK HPK HA hP
        go_wp2_with fail
        (try simp only [Exit.inBlock, Exit.then])
        exact bodyPost_ret (v := .tuple #[.agg #[.string x, .string pk], .bool true]) (by simp [results, Tryz.results59, go_sem, l0, l1]) rfl ⟨by rw [HEV.out], HBN.out⟩
      · have HA2 := Lib.hid (show ∀ i, i < k + 1 → c i ≠ x from fun i hi => by
          by_cases e : i = k
          · rw [e, HUK.out]; exact he
          · exact HA.out i (by omega))
        rw [decide_eq_false he]
        clear he HUK HPK HA
        go_wp2_with fail
        go_roundw
        case rel => exact ⟨k + 1, by omega, by simp, HA2, HX2, HB2⟩
        case measure => simp [intOf]; omega
    · obtain rfl : k = n := by omega
      have HEV := Lib.hid (show monV c p (curI k c x) = .tuple #[.agg #[.string ⟨#[]⟩, .string ⟨#[]⟩], .bool false] by rw [curI_none HA.out]; rfl)
      obtain ⟨W1, hW1⟩ : ∃ W, W = wr.alloc (.cells #[.string ⟨#[]⟩, .string ⟨#[]⟩] 35) := ⟨_, rfl⟩
      have hb1 : Below wr.heap.size wr W1 := by rw [hW1]; exact (Below.refl _ _).alloc (Nat.le_refl _) _
      obtain ⟨E1, hE1⟩ : ∃ s, wr.heap.size = s := ⟨_, rfl⟩
      have HE := Lib.hid (show TwoAt W1 E1 35 (.string ⟨#[]⟩) (.string ⟨#[]⟩) by rw [hW1, ← hE1]; exact TwoAt.made _ _ _ _)
      have HX1 := Lib.hid (HX.out.below hb1)
      have hbs : w.heap.size ≤ S0 := by have := HS.out; omega
      have hP := HX1.out.put (.string ⟨#[]⟩) (.string ⟨#[]⟩)
      have HBN := Lib.hid (((HB.out.trans (hb1.mono HB.out.size)).setCell (p := ⟨S0, 0, none⟩) hbs (.string ⟨#[]⟩)).setCell (p := ⟨S0, 1, none⟩) hbs (.string ⟨#[]⟩))
      obtain ⟨l0, l1, _, _⟩ := hP.cells
      clear HA hP hb1 HX HB
      go_upto_region 8 with fail
      rw [← hW1]
      try rw [hE1]
      clear hW1
      obtain ⟨k0, k1, _, _⟩ := HE.out.cells
      obtain ⟨m0, m1, m2, m3⟩ := HX1.out.cells
      go_wp2_with fail
      (try simp only [Exit.inBlock, Exit.then])
      exact bodyPost_ret (v := .tuple #[.agg #[.string ⟨#[]⟩, .string ⟨#[]⟩], .bool false]) (by simp [results, Tryz.results59, go_sem, l0, l1]) rfl ⟨by rw [HEV.out], HBN.out⟩

set_option maxRecDepth 100000 in
set_option maxHeartbeats 16000000 in
theorem pAmount (w : World) (xa : Option Addr) (n cap : Nat) (u v : Nat → ByteArray) (x : ByteArray) (hr : Rf w xa n u v) (hmax : n ≤ 9223372036854775807) :
    Calls Tryz.prog 26 #[.slice xa n cap, .string x] w fun e w' => e = .returned (.string (amtS n u v x)) ∧ Below w.heap.size w w' := by
  obtain ⟨W1, hW1⟩ : ∃ W, W = w.alloc (.cells #[.string x] 9) := ⟨_, rfl⟩
  obtain ⟨B0, hB0⟩ : ∃ s, w.heap.size = s := ⟨_, rfl⟩
  have hbx : Boxed W1 B0 9 (.string x) := by rw [hW1, ← hB0]; exact Boxed.new _ _ _
  have hb1 : Below w.heap.size w W1 := by rw [hW1]; exact (Below.refl _ _).alloc (Nat.le_refl _) _
  have HF := Lib.hid (pFirstM W1 xa n cap u v B0 x (hr.belowAt hb1 (Nat.le_refl _)) hbx.cell hmax)
  have HB := Lib.hid hb1
  obtain ⟨k0, k1, i, hv, ha⟩ : ∃ y q i, monV u v (curI n u x) = .tuple #[.agg #[.string y, .string q], .bool i] ∧ amtS n u v x = q := by
    unfold amtS curI
    cases idx (fun i => decide (u i = x)) n with
    | none => exact ⟨_, _, _, rfl, rfl⟩
    | some i => exact ⟨_, _, _, rfl, rfl⟩
  rw [hv] at HF
  rw [ha]
  clear hr hbx hb1 hv ha
  go_enter Tryz.func26, Tryz.ntmps26
  go_upto_region 1 with fail
  rw [← hW1]
  try rw [hB0]
  clear hW1
  go_wp2_with fail
  refine HF.out.mono ?_
  rintro _ W3 ⟨rfl, hB3⟩
  have hb3 := HB.out.trans (hB3.mono HB.out.size)
  obtain ⟨W4, hW4⟩ : ∃ W, W = W3.alloc (.cells #[.string k0, .string k1] 35) := ⟨_, rfl⟩
  have h2 := two_new W3 35 (.string k0) (.string k1)
  rw [← hW4] at h2
  have HB4 := Lib.hid (hb3.trans (h2.2.mono hb3.size))
  obtain ⟨E1, hE1⟩ : ∃ s, W3.heap.size = s := ⟨_, rfl⟩
  have HE := Lib.hid (show TwoAt W4 E1 35 (.string k0) (.string k1) by rw [← hE1]; exact h2.1)
  clear h2 hB3 hb3
  go_upto_region 2 with fail
  rw [← hW4]
  try rw [hE1]
  clear hW4
  obtain ⟨m0, m1, _, _⟩ := HE.out.cells
  go_wp2_with fail
  go_ret
  exact ⟨rfl, HB4.out⟩

/-- why a currency cannot stand behind those before it -/
def curC (k : Nat) (c : Nat → ByteArray) (x : ByteArray) (q : Int) : Int := if codeS x = false then 23 else if q < 0 ∨ 12 < q then 2 else if (curI k c x).isSome = true then 5 else 0
theorem curC_at (k : Nat) (c : Nat → ByteArray) (p : Nat → Int) : curC k c (c k) (p k) = tabAt c p k := by
  unfold curC tabAt
  have : (curI k c (c k)).isSome = (List.range k).any (fun l => decide (c l = c k)) := by
    cases h : curI k c (c k) with
    | none =>
      have := idx_none.1 h
      rw [eq_comm, List.any_eq_false.2 fun i hi => by rw [this i (List.mem_range.1 hi)]; decide]; rfl
    | some i =>
      obtain ⟨h1, h2, _⟩ := idx_is h
      rw [eq_comm, List.any_eq_true.2 ⟨i, List.mem_range.2 h1, h2⟩]; rfl
  rw [this]
set_option maxRecDepth 100000 in
set_option maxHeartbeats 16000000 in
theorem pCur_code (w : World) (xb : Option Addr) (k cb : Nat) (c : Nat → ByteArray) (p : Nat → Int) (x : ByteArray) (q : Int) (hr : Rt w xb k c p) (hk : k ≤ 100000) (hx : x.size ≤ 1000) (h1 : codeS x = false) :
    Calls Tryz.prog 48 #[.agg #[.string x, .int .i64 q], .slice xb k cb] w fun e w' => e = .returned (.int .i64 23) ∧ Below w.heap.size w w' := by
  obtain ⟨W0, hW0⟩ : ∃ W, W = w.alloc (.cells #[.string x, .int .i64 q] 26) := ⟨_, rfl⟩
  obtain ⟨B0, hB0⟩ : ∃ s, w.heap.size = s := ⟨_, rfl⟩
  have HX := Lib.hid (show TwoAt W0 B0 26 (.string x) (.int .i64 q) by rw [hW0, ← hB0]; exact TwoAt.made _ _ _ _)
  have hb0 : Below w.heap.size w W0 := by rw [hW0]; exact (Below.refl _ _).alloc (Nat.le_refl _) _
  have HB := Lib.hid hb0
  have HCO := Lib.hid (fun W => pCode x W (by omega))
  have HFI := Lib.hid (pFind W0 xb k cb c p x (hr.belowAt hb0 (Nat.le_refl _)) (by omega))
  rw [h1] at HCO
  clear h1 HFI
  clear hr hb0 hk hx
  go_enter Tryz.func48, Tryz.ntmps48
  go_upto_region 1 with fail
  rw [← hW0]
  try rw [hB0]
  clear hW0
  obtain ⟨q1, q2, _, _⟩ := HX.out.cells
  go_wp2_with fail
  refine (HCO.out _).mono ?_
  rintro _ _ ⟨rfl, rfl⟩
  go_wp2_with fail
  go_ret
  exact ⟨rfl, HB.out⟩
set_option maxRecDepth 100000 in
set_option maxHeartbeats 16000000 in
theorem pCur_low (w : World) (xb : Option Addr) (k cb : Nat) (c : Nat → ByteArray) (p : Nat → Int) (x : ByteArray) (q : Int) (hr : Rt w xb k c p) (hk : k ≤ 100000) (hx : x.size ≤ 1000) (h1 : codeS x = true) (h2 : q < 0) :
    Calls Tryz.prog 48 #[.agg #[.string x, .int .i64 q], .slice xb k cb] w fun e w' => e = .returned (.int .i64 2) ∧ Below w.heap.size w w' := by
  obtain ⟨W0, hW0⟩ : ∃ W, W = w.alloc (.cells #[.string x, .int .i64 q] 26) := ⟨_, rfl⟩
  obtain ⟨B0, hB0⟩ : ∃ s, w.heap.size = s := ⟨_, rfl⟩
  have HX := Lib.hid (show TwoAt W0 B0 26 (.string x) (.int .i64 q) by rw [hW0, ← hB0]; exact TwoAt.made _ _ _ _)
  have hb0 : Below w.heap.size w W0 := by rw [hW0]; exact (Below.refl _ _).alloc (Nat.le_refl _) _
  have HB := Lib.hid hb0
  have HCO := Lib.hid (fun W => pCode x W (by omega))
  have HFI := Lib.hid (pFind W0 xb k cb c p x (hr.belowAt hb0 (Nat.le_refl _)) (by omega))
  rw [h1] at HCO
  clear h1 HFI
  clear hr hb0 hk hx
  go_enter Tryz.func48, Tryz.ntmps48
  go_upto_region 1 with fail
  rw [← hW0]
  try rw [hB0]
  clear hW0
  obtain ⟨q1, q2, _, _⟩ := HX.out.cells
  go_wp2_with fail
  refine (HCO.out _).mono ?_
  rintro _ _ ⟨rfl, rfl⟩
  go_wp2_with fail
  go_ret
  exact ⟨rfl, HB.out⟩
set_option maxRecDepth 100000 in
set_option maxHeartbeats 16000000 in
theorem pCur_high (w : World) (xb : Option Addr) (k cb : Nat) (c : Nat → ByteArray) (p : Nat → Int) (x : ByteArray) (q : Int) (hr : Rt w xb k c p) (hk : k ≤ 100000) (hx : x.size ≤ 1000) (h1 : codeS x = true) (h2 : ¬ q < 0) (h3 : 12 < q) :
    Calls Tryz.prog 48 #[.agg #[.string x, .int .i64 q], .slice xb k cb] w fun e w' => e = .returned (.int .i64 2) ∧ Below w.heap.size w w' := by
  obtain ⟨W0, hW0⟩ : ∃ W, W = w.alloc (.cells #[.string x, .int .i64 q] 26) := ⟨_, rfl⟩
  obtain ⟨B0, hB0⟩ : ∃ s, w.heap.size = s := ⟨_, rfl⟩
  have HX := Lib.hid (show TwoAt W0 B0 26 (.string x) (.int .i64 q) by rw [hW0, ← hB0]; exact TwoAt.made _ _ _ _)
  have hb0 : Below w.heap.size w W0 := by rw [hW0]; exact (Below.refl _ _).alloc (Nat.le_refl _) _
  have HB := Lib.hid hb0
  have HCO := Lib.hid (fun W => pCode x W (by omega))
  have HFI := Lib.hid (pFind W0 xb k cb c p x (hr.belowAt hb0 (Nat.le_refl _)) (by omega))
  rw [h1] at HCO
  clear h1 HFI
  clear hr hb0 hk hx
  go_enter Tryz.func48, Tryz.ntmps48
  go_upto_region 1 with fail
  rw [← hW0]
  try rw [hB0]
  clear hW0
  obtain ⟨q1, q2, _, _⟩ := HX.out.cells
  go_wp2_with fail
  refine (HCO.out _).mono ?_
  rintro _ _ ⟨rfl, rfl⟩
  go_wp2_with fail
  go_ret
  exact ⟨rfl, HB.out⟩
set_option maxRecDepth 100000 in
set_option maxHeartbeats 16000000 in
theorem pCur_find (w : World) (xb : Option Addr) (k cb : Nat) (c : Nat → ByteArray) (p : Nat → Int) (x : ByteArray) (q : Int) (hr : Rt w xb k c p) (hk : k ≤ 100000) (hx : x.size ≤ 1000) (h1 : codeS x = true) (h2 : ¬ q < 0) (h3 : ¬ 12 < q) :
    Calls Tryz.prog 48 #[.agg #[.string x, .int .i64 q], .slice xb k cb] w fun e w' => e = .returned (.int .i64 (if (curI k c x).isSome = true then 5 else 0)) ∧ Below w.heap.size w w' := by
  obtain ⟨W0, hW0⟩ : ∃ W, W = w.alloc (.cells #[.string x, .int .i64 q] 26) := ⟨_, rfl⟩
  obtain ⟨B0, hB0⟩ : ∃ s, w.heap.size = s := ⟨_, rfl⟩
  have HX := Lib.hid (show TwoAt W0 B0 26 (.string x) (.int .i64 q) by rw [hW0, ← hB0]; exact TwoAt.made _ _ _ _)
  have hb0 : Below w.heap.size w W0 := by rw [hW0]; exact (Below.refl _ _).alloc (Nat.le_refl _) _
  have HB := Lib.hid hb0
  have HCO := Lib.hid (fun W => pCode x W (by omega))
  have HFI := Lib.hid (pFind W0 xb k cb c p x (hr.belowAt hb0 (Nat.le_refl _)) (by omega))
  rw [h1] at HCO
  clear h1
  obtain ⟨y, z, i, hv, hi⟩ : ∃ y z i, curV c p (curI k c x) = .tuple #[.agg #[.string y, .int .i64 z], .bool i] ∧ (curI k c x).isSome = i := by
    cases curI k c x with
    | none => exact ⟨_, _, _, rfl, rfl⟩
    | some i => exact ⟨_, _, _, rfl, rfl⟩
  rw [hv] at HFI
  rw [hi]
  clear hv hi
  clear hr hb0 hk hx
  go_enter Tryz.func48, Tryz.ntmps48
  go_upto_region 1 with fail
  rw [← hW0]
  try rw [hB0]
  clear hW0
  obtain ⟨q1, q2, _, _⟩ := HX.out.cells
  go_wp2_with fail
  refine (HCO.out _).mono ?_
  rintro _ _ ⟨rfl, rfl⟩
  go_wp2_with fail
  refine HFI.out.mono ?_
  rintro _ W3 ⟨rfl, hB3⟩
  have hb3 := HB.out.trans (hB3.mono HB.out.size)
  have HB4 := Lib.hid (hb3.trans ((two_new W3 26 (.string y) (.int .i64 z)).2.mono hb3.size))
  clear hB3 hb3 q1 q2
  cases i with
  | true =>
    go_wp2_with fail
    go_ret
    exact ⟨rfl, by first | exact HB4.out | exact hB0 ▸ HB4.out⟩
  | false =>
    go_wp2_with fail
    go_ret
    exact ⟨rfl, by first | exact HB4.out | exact hB0 ▸ HB4.out⟩
theorem pCur (w : World) (xb : Option Addr) (k cb : Nat) (c : Nat → ByteArray) (p : Nat → Int) (x : ByteArray) (q : Int) (hr : Rt w xb k c p) (hk : k ≤ 100000) (hx : x.size ≤ 1000) :
    Calls Tryz.prog 48 #[.agg #[.string x, .int .i64 q], .slice xb k cb] w fun e w' => e = .returned (.int .i64 (curC k c x q)) ∧ Below w.heap.size w w' := by
  unfold curC
  cases h1 : codeS x with
  | false => exact pCur_code w xb k cb c p x q hr hk hx h1
  | true =>
    rw [if_neg (by decide)]
    by_cases h2 : q < 0
    · rw [if_pos (Or.inl h2)]; exact pCur_low w xb k cb c p x q hr hk hx h1 h2
    · by_cases h3 : 12 < q
      · rw [if_pos (Or.inr h3)]; exact pCur_high w xb k cb c p x q hr hk hx h1 h2 h3
      · rw [if_neg (by omega)]; exact pCur_find w xb k cb c p x q hr hk hx h1 h2 h3

set_option maxRecDepth 100000 in
set_option maxHeartbeats 16000000 in
theorem pTab_many (w : World) (xa : Option Addr) (n cap : Nat) (h : 16 < n) :
    Calls Tryz.prog 16 #[.slice xa n cap] w fun e w' => e = .returned (.int .i64 4) ∧ Below w.heap.size w w' := by
  have hi : (16 : Int) < n := by omega
  clear h
  go_enter Tryz.func16, Tryz.ntmps16
  go_wp2_with fail
  go_ret
  exact ⟨rfl, Below.refl _ _⟩
theorem Rt.prefix {w : World} {xa : Option Addr} {n k : Nat} {c : Nat → ByteArray} {p : Nat → Int} (h : Rt w xa n c p) (hk : k ≤ n) : Rt w xa k c p := Rc.prefix h (by omega)
set_option maxRecDepth 100000 in
set_option maxHeartbeats 16000000 in
theorem pTab_few (w : World) (xa : Option Addr) (n cap : Nat) (hcap : n ≤ cap) (c : Nat → ByteArray) (p : Nat → Int) (hr : Rt w xa n c p) (hf : FitT n c) (hn : n ≤ 16) :
    Calls Tryz.prog 16 #[.slice xa n cap] w fun e w' => e = .returned (.int .i64 (firstE (tabAt c p) n)) ∧ Below w.heap.size w w' := by
  have hi : ¬ (16 : Int) < n := by omega
  have HR := Lib.hid hr
  have HF := Lib.hid hf
  clear hr hf
  go_enter Tryz.func16, Tryz.ntmps16
  go_wp2_with fail
  go_loopw [11] (fun iv wr => ∃ k : Nat, k ≤ n ∧ iv = .int .i64 (k : Int) ∧ Hid (∀ i, i < k → tabAt c p i = 0) ∧ Hid (Below w.heap.size w wr)) (fun iv _ => n - (intOf iv).toNat)
  case atStart => exact ⟨0, Nat.zero_le _, rfl, Lib.hid (fun i hi => absurd hi (by omega)), Lib.hid (Below.refl _ _)⟩
  case round =>
    obtain ⟨k, hk, rfl, HA, HB⟩ := hrel
    have hw1 : IntKind.i64.wrap ((k : Int) + 1) = (k : Int) + 1 := IntWalk.i64_in _ (by omega)
    by_cases hlt : k < n
    · have HPX := Lib.hid (HR.out.prefix (k := k) (by omega))
      obtain ⟨b, o, rfl, hb, y1, y2⟩ := Rt.at HR.out hlt
      have z1 := (HB.out.cell (p := ⟨b, o + k * 2, none⟩) hb).trans y1
      have z2 := (HB.out.cell (p := ⟨b, o + k * 2 + 1, none⟩) hb).trans y2
      have hsu := HF.out.code k hlt
      have HC := Lib.hid (fun W (hW : Below w.heap.size w W) => pCur W (some ⟨b, o, none⟩) k cap c p (c k) (p k) (HPX.out.belowAt hW (Nat.le_refl _)) (by omega) hsu)
      rw [curC_at k c p] at HC
      obtain ⟨uk, huk⟩ : ∃ y, c k = y := ⟨_, rfl⟩
      obtain ⟨pk, hpk⟩ : ∃ q, p k = q := ⟨_, rfl⟩
      obtain ⟨ek, hek⟩ : ∃ q, tabAt c p k = q := ⟨_, rfl⟩
      rw [hek, huk, hpk] at HC
      rw [huk] at z1
      rw [hpk] at z2
      obtain ⟨W1, hW1⟩ : ∃ W, W = wr.alloc (.cells #[.string uk, .int .i64 pk] 26) := ⟨_, rfl⟩
      have h2 := two_new wr 26 (.string uk) (.int .i64 pk)
      rw [← hW1] at h2
      obtain ⟨E1, hE1⟩ : ∃ s, wr.heap.size = s := ⟨_, rfl⟩
      have HE := Lib.hid (show TwoAt W1 E1 26 (.string uk) (.int .i64 pk) by rw [← hE1]; exact h2.1)
      have HB1 := Lib.hid (HB.out.trans (h2.2.mono HB.out.size))
      have HEK := Lib.hid hek
      have hlt' : (k : Int) < (n : Int) := by omega
      have hkc : (k : Int) ≤ (cap : Int) := by omega
      have hk0 : (0 : Int) ≤ (k : Int) := by omega
      clear huk hpk hek h2 y1 y2 HB hsu HPX
      go_upto_region 6 with fail
      rw [← hW1]
      try rw [hE1]
      clear hW1
      obtain ⟨k0, k1, _, _⟩ := HE.out.cells
      refine wp_region_held_drew (S := fun w' => w'.cell? ⟨E1, 0, none⟩ = some (.string uk) ∧ w'.cell? ⟨E1, 1, none⟩ = some (.int .i64 pk)) (by kernel_rfl) (by (try dsimp only); go_keep) (fun hHeld => ?_)
      refine wpAnyH_take (i := 0) (oi := { dst := some 16, op := Op.load 26 (Operand.tmp 4), type := 26, pos := "money.go:18", after := #[], guard := none }) (v := ?_) rfl (by kernel_rfl) (by kernel_rfl) (by kernel_rfl) (fun _ _ _ h => h) (Or.inl ⟨by rfl, ?_⟩) (by assumption) ?_
      rotate_left
      focus ((intro w hSw; (try dsimp only at hSw); go_simp); (try with_reducible rfl))
      try simp only [Act.put, List.setIfInBounds_toArray, List.set_cons_zero, List.set_cons_succ]
      refine wpAnyH_take (i := 1) (oi := { dst := some 17, op := Op.move (Operand.tmp 0), type := 22, pos := "money.go:18", after := #[], guard := none }) (v := ?_) rfl (by kernel_rfl) (by kernel_rfl) (by kernel_rfl) (fun _ _ _ h => h) (Or.inl ⟨by rfl, ?_⟩) (by assumption) ?_
      rotate_left
      focus ((intro w hSw; (try dsimp only at hSw); go_simp); (try with_reducible rfl))
      try simp only [Act.put, List.setIfInBounds_toArray, List.set_cons_zero, List.set_cons_succ]
      refine wpAnyH_take (i := 2) (oi := { dst := some 18, op := Op.move (Operand.tmp 3), type := 3, pos := "money.go:18", after := #[], guard := none }) (v := ?_) rfl (by kernel_rfl) (by kernel_rfl) (by kernel_rfl) (fun _ _ _ h => h) (Or.inl ⟨by rfl, ?_⟩) (by assumption) ?_
      rotate_left
      focus ((intro w hSw; (try dsimp only at hSw); go_simp); (try with_reducible rfl))
      try simp only [Act.put, List.setIfInBounds_toArray, List.set_cons_zero, List.set_cons_succ]
      refine wpAnyH_ready (rs := [3]) (by kernel_rfl) (by simp) ?_
      refine AllReadyH.cons (o := { dst := some 19, op := Op.slice 22 (Operand.tmp 17) none (some (Operand.tmp 18)) none, type := 22, pos := "money.go:18", after := #[{ on := 1, ground := Ground.data }, { on := 2, ground := Ground.data }], guard := none }) rfl (fun K hK => ?_) AllReadyH.nil
      clear hHeld
      go_simp
      refine hK.out _ _ (by (try dsimp only); go_keep) (fun hHeld => ?_)
      clear hK K
      try simp only [Act.put, List.setIfInBounds_toArray, List.set_cons_zero, List.set_cons_succ]
      refine wpAnyH_ready (rs := [4]) (by kernel_rfl) (by simp) ?_
      refine AllReadyH.cons (o := { dst := some 20, op := Op.call { callee := Callee.value (Operand.func 48), args := #[Operand.tmp 16, Operand.tmp 19], argTypes := #[26, 22] }, type := 29, pos := "money.go:18", after := #[{ on := 0, ground := Ground.data }, { on := 3, ground := Ground.data }], guard := none }) rfl (fun K hK => ?_) AllReadyH.nil
      clear hHeld
      go_simp
      refine (HC.out _ (below_drew HB1.out)).mono ?_
      rintro _ W2 ⟨rfl, hB2⟩
      have HB2 := Lib.hid ((below_drew HB1.out).trans (hB2.mono (below_drew HB1.out).size))
      have HE2 := Lib.hid (show TwoAt W2 E1 26 (.string uk) (.int .i64 pk) from TwoAt.below (w := W1.drew) HE.out hB2)
      obtain ⟨l0, l1, _, _⟩ := HE2.out.cells
      clear hB2 k0 k1 HB1 HC
      go_wp2_with fail
      refine hK.out _ _ (by (try dsimp only); go_keep) (fun hHeld => ?_)
      clear hK K
      try simp only [Act.put, List.setIfInBounds_toArray, List.set_cons_zero, List.set_cons_succ]
      refine wpAnyH_take (i := 5) (oi := { dst := some 5, op := Op.assign (Operand.tmp 20), type := 29, pos := "money.go:18", after := #[{ on := 4, ground := Ground.data }, { on := 4, ground := Ground.chain }, { on := 0, ground := Ground.phase }, { on := 1, ground := Ground.phase }, { on := 2, ground := Ground.phase }, { on := 3, ground := Ground.phase }, { on := 4, ground := Ground.phase }], guard := none }) (v := ?_) rfl (by kernel_rfl) (by kernel_rfl) (by kernel_rfl) (fun _ _ _ h => h) (Or.inl ⟨by rfl, ?_⟩) (by assumption) ?_
      rotate_left
      focus ((intro w hSw; (try dsimp only at hSw); go_simp); (try with_reducible rfl))
      try simp only [Act.put, List.setIfInBounds_toArray, List.set_cons_zero, List.set_cons_succ]
      refine wpAnyH_done (by kernel_rfl) ?_ _
      clear hHeld
      by_cases he : ek = 0
      · subst he
        have HA2 := Lib.hid (show ∀ i, i < k + 1 → tabAt c p i = 0 from fun i hi => by
          by_cases e : i = k
          · rw [e]; exact HEK.out
          · exact HA.out i (by omega))
        clear l0 l1
        go_wp2_with fail
        go_roundw
        case rel => exact ⟨k + 1, by omega, by simp, HA2, HB2⟩
        case measure => simp [intOf]; omega
      · have hb2 : (ek != 0) = true := by rw [bne_iff_ne]; exact he
        have HZ := Lib.hid (show firstE (tabAt c p) n = ek by rw [firstE_at (by rw [HEK.out]; exact he) HA.out hlt, HEK.out])
        clear l0 l1 he
        go_wp2_with fail
        go_ret
        exact ⟨by rw [HZ.out]; rfl, HB2.out⟩
    · obtain rfl : k = n := by omega
      have HE := Lib.hid (firstE_zero.2 HA.out)
      go_wp2_with fail
      go_ret
      exact ⟨by rw [HE.out]; rfl, HB.out⟩
theorem pTab (w : World) (xa : Option Addr) (n cap : Nat) (hcap : n ≤ cap) (c : Nat → ByteArray) (p : Nat → Int) (hr : Rt w xa n c p) (hf : FitT n c) :
    Calls Tryz.prog 16 #[.slice xa n cap] w fun e w' => e = .returned (.int .i64 (tabE n c p)) ∧ Below w.heap.size w w' := by
  unfold tabE
  by_cases h : 16 < n
  · rw [if_pos h]; exact pTab_many w xa n cap h
  · rw [if_neg h]; exact pTab_few w xa n cap hcap c p hr hf (by omega)

end Go.Proofs.YtahnkmkmoalbhaaGreatDoor

/- Layer 5, the program: Check, lowerCode, take: the walks. -/
namespace Go.Proofs.YtahnkmkmoalbhaaGreatDoor
open Go.RowKit

/-! ### Check -/
/-- the code before element k -/
def befC (u : Nat → ByteArray) (k : Nat) : ByteArray := if k = 0 then ⟨#[]⟩ else u (k - 1)
theorem nil_toList : (ByteArray.mk #[]).toList = [] := by decide +kernel
theorem befC_ord {u : Nat → ByteArray} {k : Nat} (h : codeS (u k) = true) : (Op.bytesLess (u k).toList (befC u k).toList || (u k).toList == (befC u k).toList) = decide (0 < k ∧ bl (u (k - 1)) (u k) = false) := by
  unfold befC
  by_cases h0 : k = 0
  · rw [if_pos h0, decide_eq_false (by omega), nil_toList]
    have hs := code_size h
    have hn : (u k).toList ≠ [] := fun e => by
      rw [Lib.toList_data] at e
      have h1 := size_toList (u k)
      rw [e, hs] at h1
      simp at h1
    cases hl : (u k).toList with
    | nil => exact absurd hl hn
    | cons a r => rfl
  · rw [if_neg h0]
    cases h4 : bl (u (k - 1)) (u k) with
    | false =>
      rw [decide_eq_true ⟨by omega, rfl⟩]
      cases g : bl (u k) (u (k - 1)) with
      | true => unfold bl at g; rw [g]; rfl
      | false => rw [bl_tri h4 g]; simp
    | true =>
      rw [decide_eq_false (by simp)]
      have g := bl_asym h4
      unfold bl at g
      rw [g, beq_toList, decide_eq_false (bl_ne h4).symm]; rfl
theorem befC_succ (u : Nat → ByteArray) (k : Nat) : befC u (k + 1) = u k := by unfold befC; rw [if_neg (by omega)]; rfl
set_option maxRecDepth 100000 in
set_option maxHeartbeats 16000000 in
theorem pBag_many (w : World) (xa : Option Addr) (n cap : Nat) (h : 16 < n) :
    Calls Tryz.prog 24 #[.slice xa n cap] w fun e w' => e = .returned (.int .i64 4) ∧ Below w.heap.size w w' := by
  have hi : (16 : Int) < n := by omega
  clear h
  go_enter Tryz.func24, Tryz.ntmps24
  go_wp2_with fail
  go_ret
  exact ⟨rfl, Below.refl _ _⟩
set_option maxRecDepth 100000 in
set_option maxHeartbeats 16000000 in
theorem pBag_few (w : World) (xa : Option Addr) (n cap : Nat) (u v : Nat → ByteArray) (hr : Rf w xa n u v) (hf : FitB n u v) (hn : n ≤ 16) :
    Calls Tryz.prog 24 #[.slice xa n cap] w fun e w' => e = .returned (.int .i64 (firstE (bagAt isCan u v) n)) ∧ Below w.heap.size w w' := by
  have hi : ¬ (16 : Int) < n := by omega
  have HR := Lib.hid hr
  have HF := Lib.hid hf
  clear hr hf
  go_enter Tryz.func24, Tryz.ntmps24
  go_wp2_with fail
  go_loopw [3, 12] (fun bv iv wr => ∃ k : Nat, k ≤ n ∧ iv = .int .i64 (k : Int) ∧ bv = .string (befC u k) ∧ Hid (∀ i, i < k → bagAt isCan u v i = 0) ∧ Hid (Below w.heap.size w wr)) (fun _ iv _ => n - (intOf iv).toNat)
  case atStart => exact ⟨0, Nat.zero_le _, rfl, rfl, Lib.hid (fun i hi => absurd hi (by omega)), Lib.hid (Below.refl _ _)⟩
  case round =>
    obtain ⟨k, hk, rfl, rfl, HA, HB⟩ := hrel
    have hw1 : IntKind.i64.wrap ((k : Int) + 1) = (k : Int) + 1 := IntWalk.i64_in _ (by omega)
    by_cases hlt : k < n
    · obtain ⟨b, o, rfl, hb, y1, y2⟩ := Rf.at HR.out hlt
      have z1 := (HB.out.cell (p := ⟨b, o + k * 2, none⟩) hb).trans y1
      have z2 := (HB.out.cell (p := ⟨b, o + k * 2 + 1, none⟩) hb).trans y2
      have hsu := HF.out.code k hlt
      have hsv := HF.out.num k hlt
      have HC := Lib.hid (fun W => pMon (u k) (v k) W (by omega) (by omega))
      have HOR := Lib.hid (befC_ord (u := u) (k := k))
      have hbat : bagAt isCan u v k = if monC (u k) (v k) ≠ 0 then monC (u k) (v k) else if v k = ⟨#[]⟩ then 11 else if 0 < k ∧ bl (u (k - 1)) (u k) = false then 8 else 0 := by
        unfold bagAt monC chk
        cases codeS (u k) <;> cases isCan (v k) <;> simp
      have hmc : monC (u k) (v k) = 0 → codeS (u k) = true := fun h => by
        cases hc : codeS (u k) with
        | true => rfl
        | false => unfold monC at h; rw [if_pos hc] at h; exact absurd h (by decide)
      have HBA := Lib.hid hbat
      have HMC := Lib.hid hmc
      have HEV := Lib.hid (beq_toList (v k) ⟨#[]⟩)
      rw [nil_toList] at HEV
      rw [← befC_succ u k] at HC z1 HOR HBA HMC
      obtain ⟨uk, huk⟩ : ∃ y, befC u (k + 1) = y := ⟨_, rfl⟩
      obtain ⟨vk, hvk⟩ : ∃ y, v k = y := ⟨_, rfl⟩
      obtain ⟨bf, hbf⟩ : ∃ y, befC u k = y := ⟨_, rfl⟩
      obtain ⟨mc, hmc2⟩ : ∃ y, monC uk vk = y := ⟨_, rfl⟩
      have HUK := Lib.hid huk
      rw [huk] at z1 HC HOR HBA HMC
      rw [hvk] at z2 HC HBA HEV HMC
      rw [hbf] at HOR ⊢
      rw [hmc2] at HC HBA HMC
      obtain ⟨W1, hW1⟩ : ∃ W, W = wr.alloc (.cells #[.string uk, .string vk] 35) := ⟨_, rfl⟩
      have h2 := two_new wr 35 (.string uk) (.string vk)
      rw [← hW1] at h2
      obtain ⟨E1, hE1⟩ : ∃ s, wr.heap.size = s := ⟨_, rfl⟩
      have HE := Lib.hid (show TwoAt W1 E1 35 (.string uk) (.string vk) by rw [← hE1]; exact h2.1)
      have HB1 := Lib.hid (HB.out.trans (h2.2.mono HB.out.size))
      have hlt' : (k : Int) < (n : Int) := by omega
      clear huk hvk hbf h2 y1 y2 HB hsu hsv hmc2 hbat hmc
      go_upto_region 7 with fail
      rw [← hW1]
      try rw [hE1]
      clear hW1
      obtain ⟨k0, k1, _, _⟩ := HE.out.cells
      go_wp2_with fail
      refine (HC.out _).mono ?_
      rintro _ W2 ⟨rfl, hB2⟩
      have HE2 := Lib.hid (HE.out.below hB2)
      have HB2 := Lib.hid (HB1.out.trans (hB2.mono HB1.out.size))
      obtain ⟨l0, l1, _, _⟩ := HE2.out.cells
      clear hB2 k0 k1 HE HB1 HC
      by_cases he : mc = 0
      · subst he
        have hcu := HMC.out rfl
        have hor := HOR.out hcu
        by_cases h3 : vk = ⟨#[]⟩
        · have hev := HEV.out
          rw [decide_eq_true h3] at hev
          have HZ := Lib.hid (show firstE (bagAt isCan u v) n = 11 by
            have hz : bagAt isCan u v k = 11 := by rw [HBA.out, if_neg (by simp), if_pos h3]
            rw [firstE_at (by rw [hz]; decide) HA.out hlt, hz])
          clear hor hcu h3
          go_wp2_with fail
          go_ret
          exact ⟨by rw [HZ.out]; rfl, HB2.out⟩
        · have hev := HEV.out
          rw [decide_eq_false h3] at hev
          by_cases h4 : 0 < k ∧ bl (u (k - 1)) uk = false
          · rw [decide_eq_true h4] at hor
            have HZ := Lib.hid (show firstE (bagAt isCan u v) n = 8 by
              have hz : bagAt isCan u v k = 8 := by rw [HBA.out, if_neg (by simp), if_neg h3, if_pos h4]
              rw [firstE_at (by rw [hz]; decide) HA.out hlt, hz])
            clear hcu h3 h4
            go_wp2_with fail
            go_ret
            exact ⟨by rw [HZ.out]; rfl, HB2.out⟩
          · rw [decide_eq_false h4] at hor
            have HA2 := Lib.hid (show ∀ i, i < k + 1 → bagAt isCan u v i = 0 from fun i hi => by
              by_cases e : i = k
              · rw [e, HBA.out, if_neg (by simp), if_neg h3, if_neg h4]
              · exact HA.out i (by omega))
            clear hcu h3 h4
            go_wp2_with fail
            go_roundw
            case rel => exact ⟨k + 1, by omega, by simp, by rw [HUK.out], HA2, HB2⟩
            case measure => simp [intOf]; omega
      · have hb2 : (mc != 0) = true := by rw [bne_iff_ne]; exact he
        have HZ := Lib.hid (show firstE (bagAt isCan u v) n = mc by
          have hz : bagAt isCan u v k = mc := by rw [HBA.out, if_pos he]
          rw [firstE_at (by rw [hz]; exact he) HA.out hlt, hz])
        clear l0 l1 he
        go_wp2_with fail
        go_ret
        exact ⟨by rw [HZ.out]; rfl, HB2.out⟩
    · obtain rfl : k = n := by omega
      have HE := Lib.hid (firstE_zero.2 HA.out)
      go_wp2_with fail
      go_ret
      exact ⟨by rw [HE.out]; rfl, HB.out⟩
theorem pBag (w : World) (xa : Option Addr) (n cap : Nat) (u v : Nat → ByteArray) (hr : Rf w xa n u v) (hf : FitB n u v) :
    Calls Tryz.prog 24 #[.slice xa n cap] w fun e w' => e = .returned (.int .i64 (bagE isCan n u v)) ∧ Below w.heap.size w w' := by
  unfold bagE
  by_cases h : 16 < n
  · rw [if_pos h]; exact pBag_many w xa n cap h
  · rw [if_neg h]; exact pBag_few w xa n cap u v hr hf (by omega)

/-! ### take, lowerCode -/
set_option maxRecDepth 100000 in
set_option maxHeartbeats 16000000 in
theorem pTake_none (w : World) (xa : Option Addr) (cap : Nat) (c : ByteArray) :
    Calls Tryz.prog 112 #[.slice xa 0 cap, .string c] w fun e w' => e = .returned (.tuple #[.string ⟨#[]⟩, .slice xa 0 cap]) ∧ ∃ q, w' = w.drewN q := by
  go_enter Tryz.func112, Tryz.ntmps112
  go_wp2_with fail
  go_ret2
  exact ⟨rfl, 0, rfl⟩
set_option maxRecDepth 100000 in
set_option maxHeartbeats 16000000 in
theorem pTake_no (w : World) (b o n cap : Nat) (c x : ByteArray) (h0 : 0 < n) (h1 : w.cell? ⟨b, o, none⟩ = some (.string x)) (hne : x ≠ c) :
    Calls Tryz.prog 112 #[.slice (some ⟨b, o, none⟩) n cap, .string c] w fun e w' => e = .returned (.tuple #[.string ⟨#[]⟩, .slice (some ⟨b, o, none⟩) n cap]) ∧ ∃ q, w' = w.drewN q := by
  have hb := beq_toList x c
  rw [decide_eq_false hne] at hb
  have hn0 : ((n : Int) == 0) = false := by rw [beq_eq_false_iff_ne]; omega
  have hn1 : (0 : Int) < (n : Int) := by omega
  clear hne
  go_enter Tryz.func112, Tryz.ntmps112
  go_wp2_with fail
  go_ret2
  exact ⟨rfl, 0, rfl⟩
set_option maxRecDepth 100000 in
set_option maxHeartbeats 16000000 in
theorem pTake_more (w : World) (b o n cap : Nat) (c x : ByteArray) (h0 : 0 < n) (hc : n ≤ cap) (h1 : w.cell? ⟨b, o, none⟩ = some (.string c)) (h2 : w.cell? ⟨b, o + 1, none⟩ = some (.string x)) (hm : cap ≠ 1) :
    Calls Tryz.prog 112 #[.slice (some ⟨b, o, none⟩) n cap, .string c] w fun e w' => e = .returned (.tuple #[.string x, .slice (some ⟨b, o + 2, none⟩) (n - 1) (cap - 1)]) ∧ ∃ q, w' = w.drewN q := by
  have hn0 : ((n : Int) == 0) = false := by rw [beq_eq_false_iff_ne]; omega
  have hn1 : (0 : Int) < (n : Int) := by omega
  have hn2 : (1 : Int) ≤ (n : Int) := by omega
  have hc' : (n : Int) ≤ (cap : Int) := by omega
  go_enter Tryz.func112, Tryz.ntmps112
  go_wp2_with fail
  refine wp_region_held_drew (S := fun w' => w'.cell? ⟨b, o + 1, none⟩ = some (.string x)) (by kernel_rfl) (by (try dsimp only); exact h2) (fun hHeld => ?_)
  refine wpAnyH_take (i := 0) (oi := { dst := some 18, op := Op.move (Operand.tmp 0), type := 32, pos := "sums.go:58", after := #[], guard := none }) (v := ?_) rfl (by kernel_rfl) (by kernel_rfl) (by kernel_rfl) (fun _ _ _ h => h) (Or.inl ⟨by rfl, ?_⟩) (by assumption) ?_
  rotate_left
  focus ((intro w hSw; (try dsimp only at hSw); go_simp); (try with_reducible rfl))
  try simp only [Act.put, List.setIfInBounds_toArray, List.set_cons_zero, List.set_cons_succ]
  refine wpAnyH_take (i := 1) (oi := { dst := some 19, op := Op.indexAddr 32 (Operand.tmp 18) (Operand.const (Value.int IntKind.i64 0)), type := 0, pos := "sums.go:58", after := #[{ on := 0, ground := Ground.data }], guard := none }) (v := ?_) rfl (by kernel_rfl) (by kernel_rfl) (by kernel_rfl) (fun _ _ _ h => h) (Or.inl ⟨by rfl, ?_⟩) (by assumption) ?_
  rotate_left
  focus ((intro w hSw; (try dsimp only at hSw); go_simp); (try with_reducible rfl))
  try simp only [Act.put, List.setIfInBounds_toArray, List.set_cons_zero, List.set_cons_succ]
  refine wpAnyH_take (i := 2) (oi := { dst := some 20, op := Op.fieldAddr 35 (Operand.tmp 19) 1, type := 0, pos := "sums.go:58", after := #[{ on := 1, ground := Ground.data }], guard := none }) (v := ?_) rfl (by kernel_rfl) (by kernel_rfl) (by kernel_rfl) (fun _ _ _ h => h) (Or.inl ⟨by rfl, ?_⟩) (by assumption) ?_
  rotate_left
  focus ((intro w hSw; (try dsimp only at hSw); go_simp); (try with_reducible rfl))
  try simp only [Act.put, List.setIfInBounds_toArray, List.set_cons_zero, List.set_cons_succ]
  refine wpAnyH_take (i := 3) (oi := { dst := some 21, op := Op.load 33 (Operand.tmp 20), type := 33, pos := "sums.go:58", after := #[{ on := 2, ground := Ground.data }], guard := none }) (v := ?_) rfl (by kernel_rfl) (by kernel_rfl) (by kernel_rfl) (fun _ _ _ h => h) (Or.inl ⟨by rfl, ?_⟩) (by assumption) ?_
  rotate_left
  focus ((intro w hSw; (try dsimp only at hSw); go_simp); (try with_reducible rfl))
  try simp only [Act.put, List.setIfInBounds_toArray, List.set_cons_zero, List.set_cons_succ]
  refine wpAnyH_take (i := 4) (oi := { dst := some 22, op := Op.move (Operand.tmp 0), type := 32, pos := "sums.go:58", after := #[], guard := none }) (v := ?_) rfl (by kernel_rfl) (by kernel_rfl) (by kernel_rfl) (fun _ _ _ h => h) (Or.inl ⟨by rfl, ?_⟩) (by assumption) ?_
  rotate_left
  focus ((intro w hSw; (try dsimp only at hSw); go_simp); (try with_reducible rfl))
  try simp only [Act.put, List.setIfInBounds_toArray, List.set_cons_zero, List.set_cons_succ]
  refine wpAnyH_take (i := 6) (oi := { dst := some 4, op := Op.assign (Operand.tmp 21), type := 33, pos := "sums.go:58", after := #[{ on := 3, ground := Ground.data }, { on := 0, ground := Ground.phase }, { on := 1, ground := Ground.phase }, { on := 2, ground := Ground.phase }, { on := 3, ground := Ground.phase }, { on := 4, ground := Ground.textOnly Departure.lateStores }, { on := 5, ground := Ground.textOnly Departure.lateStoresUnsure }], guard := none }) (v := ?_) rfl (by kernel_rfl) (by kernel_rfl) (by kernel_rfl) (fun _ _ _ h => h) (Or.inl ⟨by rfl, ?_⟩) (by assumption) ?_
  rotate_left
  focus ((intro w hSw; (try dsimp only at hSw); go_simp); (try with_reducible rfl))
  try simp only [Act.put, List.setIfInBounds_toArray, List.set_cons_zero, List.set_cons_succ]
  refine wpAnyH_ready (rs := [5]) (by kernel_rfl) (by simp) ?_
  refine AllReadyH.cons (o := { dst := some 23, op := Op.slice 32 (Operand.tmp 22) (some (Operand.const (Value.int IntKind.i64 1))) none none, type := 32, pos := "sums.go:58", after := #[{ on := 4, ground := Ground.data }], guard := none }) rfl (fun K hK => ?_) AllReadyH.nil
  clear hHeld
  go_simp
  refine hK.out _ _ (by (try dsimp only); exact h2) (fun hHeld => ?_)
  clear hK K
  try simp only [Act.put, List.setIfInBounds_toArray, List.set_cons_zero, List.set_cons_succ]
  refine wpAnyH_take (i := 7) (oi := { dst := some 5, op := Op.assign (Operand.tmp 23), type := 32, pos := "sums.go:58", after := #[{ on := 5, ground := Ground.data }, { on := 6, ground := Ground.chain }, { on := 0, ground := Ground.phase }, { on := 1, ground := Ground.phase }, { on := 2, ground := Ground.phase }, { on := 3, ground := Ground.phase }, { on := 4, ground := Ground.phase }, { on := 5, ground := Ground.phase }, { on := 6, ground := Ground.phase }], guard := none }) (v := ?_) rfl (by kernel_rfl) (by kernel_rfl) (by kernel_rfl) (fun _ _ _ h => h) (Or.inl ⟨by rfl, ?_⟩) (by assumption) ?_
  rotate_left
  focus ((intro w hSw; (try dsimp only at hSw); go_simp); (try with_reducible rfl))
  try simp only [Act.put, List.setIfInBounds_toArray, List.set_cons_zero, List.set_cons_succ]
  refine wpAnyH_done (by kernel_rfl) ?_ _
  clear hHeld
  go_wp2_with fail
  go_ret2
  exact ⟨rfl, 1, rfl⟩
set_option maxRecDepth 100000 in
set_option maxHeartbeats 16000000 in
theorem pTake_last (w : World) (b o n cap : Nat) (c x : ByteArray) (h0 : 0 < n) (hc : n ≤ cap) (h1 : w.cell? ⟨b, o, none⟩ = some (.string c)) (h2 : w.cell? ⟨b, o + 1, none⟩ = some (.string x)) (hm : cap = 1) :
    Calls Tryz.prog 112 #[.slice (some ⟨b, o, none⟩) n cap, .string c] w fun e w' => e = .returned (.tuple #[.string x, .slice (some ⟨b, o, none⟩) (n - 1) (cap - 1)]) ∧ ∃ q, w' = w.drewN q := by
  have hn0 : ((n : Int) == 0) = false := by rw [beq_eq_false_iff_ne]; omega
  have hn1 : (0 : Int) < (n : Int) := by omega
  have hn2 : (1 : Int) ≤ (n : Int) := by omega
  have hc' : (n : Int) ≤ (cap : Int) := by omega
  obtain rfl : n = 1 := by omega
  subst hm
  go_enter Tryz.func112, Tryz.ntmps112
  go_wp2_with fail
  refine wp_region_held_drew (S := fun w' => w'.cell? ⟨b, o + 1, none⟩ = some (.string x)) (by kernel_rfl) (by (try dsimp only); exact h2) (fun hHeld => ?_)
  refine wpAnyH_take (i := 0) (oi := { dst := some 18, op := Op.move (Operand.tmp 0), type := 32, pos := "sums.go:58", after := #[], guard := none }) (v := ?_) rfl (by kernel_rfl) (by kernel_rfl) (by kernel_rfl) (fun _ _ _ h => h) (Or.inl ⟨by rfl, ?_⟩) (by assumption) ?_
  rotate_left
  focus ((intro w hSw; (try dsimp only at hSw); go_simp); (try with_reducible rfl))
  try simp only [Act.put, List.setIfInBounds_toArray, List.set_cons_zero, List.set_cons_succ]
  refine wpAnyH_take (i := 1) (oi := { dst := some 19, op := Op.indexAddr 32 (Operand.tmp 18) (Operand.const (Value.int IntKind.i64 0)), type := 0, pos := "sums.go:58", after := #[{ on := 0, ground := Ground.data }], guard := none }) (v := ?_) rfl (by kernel_rfl) (by kernel_rfl) (by kernel_rfl) (fun _ _ _ h => h) (Or.inl ⟨by rfl, ?_⟩) (by assumption) ?_
  rotate_left
  focus ((intro w hSw; (try dsimp only at hSw); go_simp); (try with_reducible rfl))
  try simp only [Act.put, List.setIfInBounds_toArray, List.set_cons_zero, List.set_cons_succ]
  refine wpAnyH_take (i := 2) (oi := { dst := some 20, op := Op.fieldAddr 35 (Operand.tmp 19) 1, type := 0, pos := "sums.go:58", after := #[{ on := 1, ground := Ground.data }], guard := none }) (v := ?_) rfl (by kernel_rfl) (by kernel_rfl) (by kernel_rfl) (fun _ _ _ h => h) (Or.inl ⟨by rfl, ?_⟩) (by assumption) ?_
  rotate_left
  focus ((intro w hSw; (try dsimp only at hSw); go_simp); (try with_reducible rfl))
  try simp only [Act.put, List.setIfInBounds_toArray, List.set_cons_zero, List.set_cons_succ]
  refine wpAnyH_take (i := 3) (oi := { dst := some 21, op := Op.load 33 (Operand.tmp 20), type := 33, pos := "sums.go:58", after := #[{ on := 2, ground := Ground.data }], guard := none }) (v := ?_) rfl (by kernel_rfl) (by kernel_rfl) (by kernel_rfl) (fun _ _ _ h => h) (Or.inl ⟨by rfl, ?_⟩) (by assumption) ?_
  rotate_left
  focus ((intro w hSw; (try dsimp only at hSw); go_simp); (try with_reducible rfl))
  try simp only [Act.put, List.setIfInBounds_toArray, List.set_cons_zero, List.set_cons_succ]
  refine wpAnyH_take (i := 4) (oi := { dst := some 22, op := Op.move (Operand.tmp 0), type := 32, pos := "sums.go:58", after := #[], guard := none }) (v := ?_) rfl (by kernel_rfl) (by kernel_rfl) (by kernel_rfl) (fun _ _ _ h => h) (Or.inl ⟨by rfl, ?_⟩) (by assumption) ?_
  rotate_left
  focus ((intro w hSw; (try dsimp only at hSw); go_simp); (try with_reducible rfl))
  try simp only [Act.put, List.setIfInBounds_toArray, List.set_cons_zero, List.set_cons_succ]
  refine wpAnyH_take (i := 6) (oi := { dst := some 4, op := Op.assign (Operand.tmp 21), type := 33, pos := "sums.go:58", after := #[{ on := 3, ground := Ground.data }, { on := 0, ground := Ground.phase }, { on := 1, ground := Ground.phase }, { on := 2, ground := Ground.phase }, { on := 3, ground := Ground.phase }, { on := 4, ground := Ground.textOnly Departure.lateStores }, { on := 5, ground := Ground.textOnly Departure.lateStoresUnsure }], guard := none }) (v := ?_) rfl (by kernel_rfl) (by kernel_rfl) (by kernel_rfl) (fun _ _ _ h => h) (Or.inl ⟨by rfl, ?_⟩) (by assumption) ?_
  rotate_left
  focus ((intro w hSw; (try dsimp only at hSw); go_simp); (try with_reducible rfl))
  try simp only [Act.put, List.setIfInBounds_toArray, List.set_cons_zero, List.set_cons_succ]
  refine wpAnyH_ready (rs := [5]) (by kernel_rfl) (by simp) ?_
  refine AllReadyH.cons (o := { dst := some 23, op := Op.slice 32 (Operand.tmp 22) (some (Operand.const (Value.int IntKind.i64 1))) none none, type := 32, pos := "sums.go:58", after := #[{ on := 4, ground := Ground.data }], guard := none }) rfl (fun K hK => ?_) AllReadyH.nil
  clear hHeld
  go_simp
  refine hK.out _ _ (by (try dsimp only); exact h2) (fun hHeld => ?_)
  clear hK K
  try simp only [Act.put, List.setIfInBounds_toArray, List.set_cons_zero, List.set_cons_succ]
  refine wpAnyH_take (i := 7) (oi := { dst := some 5, op := Op.assign (Operand.tmp 23), type := 32, pos := "sums.go:58", after := #[{ on := 5, ground := Ground.data }, { on := 6, ground := Ground.chain }, { on := 0, ground := Ground.phase }, { on := 1, ground := Ground.phase }, { on := 2, ground := Ground.phase }, { on := 3, ground := Ground.phase }, { on := 4, ground := Ground.phase }, { on := 5, ground := Ground.phase }, { on := 6, ground := Ground.phase }], guard := none }) (v := ?_) rfl (by kernel_rfl) (by kernel_rfl) (by kernel_rfl) (fun _ _ _ h => h) (Or.inl ⟨by rfl, ?_⟩) (by assumption) ?_
  rotate_left
  focus ((intro w hSw; (try dsimp only at hSw); go_simp); (try with_reducible rfl))
  try simp only [Act.put, List.setIfInBounds_toArray, List.set_cons_zero, List.set_cons_succ]
  refine wpAnyH_done (by kernel_rfl) ?_ _
  clear hHeld
  go_wp2_with fail
  go_ret2
  exact ⟨rfl, 1, rfl⟩
end Go.Proofs.YtahnkmkmoalbhaaGreatDoor
