/- Layer 5: the law MoneyBags over the program's contracts. -/
import Derived.Test.YtahnkmkmoalbhaaGreatDoorZAL
namespace Go.Proofs.YtahnkmkmoalbhaaGreatDoor
open Go.RowKit

/-- from a bag and a code -/
def OnC (F : FuncId) (n : Nat) (u v : Nat → ByteArray) (c : ByteArray) (Q : World → Ending → World → Prop) : Prop := ∀ W xa cap, Ground W → Rf W xa n u v → Calls Tryz.prog F #[.slice xa n cap, .string c] W (Q W)
theorem ref_chk {n : Nat} {u v : Nat → ByteArray} (ha : Shrt n u v) : On1 25 n u v (ValP (.int .i64 (bagE isCan n u v))) := fun W xa cap _ hx => (rBag W xa n cap u v hx ha.fit).mono fun _ _ h => ⟨h.1, by obtain ⟨q, hq⟩ := h.2; rw [hq]; exact below_drewN (Below.refl _ _) q⟩
theorem ref_amt {n : Nat} {u v : Nat → ByteArray} (c : ByteArray) (ha : Shrt n u v) : OnC 27 n u v c (ValP (.string (amtS n u v c))) := fun W xa cap _ hx => (rAmount W xa n cap u v c hx (by have := ha.max; omega)).mono fun _ _ h => ⟨h.1, h.2 ▸ Below.refl _ _⟩
theorem put_few {n : Nat} {u v : Nat → ByteArray} {c z : ByteArray} : (putO n u v c z).1.length ≤ 100 := by
  unfold putO
  split
  · split
    · split
      · split
        · simp
        · show (put _ _ _).length ≤ 100
          omega
      · simp
    · simp
  · simp
theorem neg_few {n : Nat} {u v : Nat → ByteArray} (hn : n ≤ 18) : (negO n u v).1.length ≤ 100 := by
  unfold negO
  split
  · show (negB _).length ≤ 100
    unfold negB rowB
    rw [List.length_map, bagL_len]
    omega
  · simp

set_option maxRecDepth 100000 in
set_option maxHeartbeats 16000000 in
theorem amb_great (haw : ∀ W, Ground W → Calls Tryz.prog 13 #[] W (ValP (.bool true) W)) (xa : Option Addr) (n ca : Nat) (u v : Nat → ByteArray) (c z : ByteArray) (w : World) (hG : Ground w) (hx : Rf w xa n u v) (hn : n ≤ 9223372036854775807) (hg : greatB n u v = true) :
    Calls Tryz.prog 4 #[.slice xa n (n + ca), .agg #[.string c, .string z]] w (ValP (.bool true) w) := by
  obtain ⟨W0, hW0⟩ : ∃ W, W = w.alloc (.cells #[.string c, .string z] 35) := ⟨_, rfl⟩
  have hP0 : PairAt W0 w.heap.size 35 c z := by rw [hW0]; exact PairAt.made _ _ _ _
  have hb0 : Below w.heap.size w W0 := by rw [hW0]; exact (Below.refl _ _).alloc (Nat.le_refl _) _
  have HGR := Lib.hid (great_one (ca := n + ca) (hx.belowAt hb0 (Nat.le_refl _)) hn)
  rw [hg] at HGR
  have HP := Lib.hid hP0
  have HB := Lib.hid hb0
  have HAW := Lib.hid haw
  have HG := Lib.hid hG
  unfold ValP at HAW ⊢
  clear hx hg haw hG hn hP0 hb0
  go_enter Tryz.func4, Tryz.ntmps4
  go_upto_region 1 with fail
  rw [← hW0]
  clear hW0
  obtain ⟨q1, q2, _, _⟩ := HP.out.cells
  go_wp2_with fail
  refine HGR.out.mono ?_
  rintro _ w1 ⟨rfl, hB⟩
  have hb := HB.out.trans (hB.mono HB.out.size)
  have hP := HP.out.below hB
  clear hB q1 q2 HGR HB HP
  go_wp2_with fail
  refine (HAW.out _ (HG.out.below hb)).mono ?_
  rintro _ w2 ⟨rfl, hB⟩
  go_wp2_with fail
  go_ret
  exact ⟨rfl, hb.trans (hB.mono hb.size)⟩

set_option maxRecDepth 100000 in
set_option maxHeartbeats 16000000 in
theorem amb_long (haw : ∀ W, Ground W → Calls Tryz.prog 13 #[] W (ValP (.bool true) W)) (xa : Option Addr) (n ca : Nat) (u v : Nat → ByteArray) (c z : ByteArray) (w : World) (hG : Ground w) (hx : Rf w xa n u v) (hn : n ≤ 9223372036854775807) (hg : greatB n u v = false) (hl : wideB c z = true) :
    Calls Tryz.prog 4 #[.slice xa n (n + ca), .agg #[.string c, .string z]] w (ValP (.bool true) w) := by
  obtain ⟨W0, hW0⟩ : ∃ W, W = w.alloc (.cells #[.string c, .string z] 35) := ⟨_, rfl⟩
  have hP0 : PairAt W0 w.heap.size 35 c z := by rw [hW0]; exact PairAt.made _ _ _ _
  have hb0 : Below w.heap.size w W0 := by rw [hW0]; exact (Below.refl _ _).alloc (Nat.le_refl _) _
  have HGR := Lib.hid (great_one (ca := n + ca) (hx.belowAt hb0 (Nat.le_refl _)) hn)
  rw [hg] at HGR
  have HP := Lib.hid hP0
  have HB := Lib.hid hb0
  have HAW := Lib.hid haw
  have HG := Lib.hid hG
  unfold ValP at HAW ⊢
  have HLO := Lib.hid (fun W => rLongM c z W)
  rw [hl] at HLO
  clear hx hg haw hG hn hP0 hb0 hl
  go_enter Tryz.func4, Tryz.ntmps4
  go_upto_region 1 with fail
  rw [← hW0]
  clear hW0
  obtain ⟨q1, q2, _, _⟩ := HP.out.cells
  go_wp2_with fail
  refine HGR.out.mono ?_
  rintro _ w1 ⟨rfl, hB⟩
  have hb := HB.out.trans (hB.mono HB.out.size)
  have hP := HP.out.below hB
  clear hB q1 q2 HGR HB HP
  obtain ⟨q1, q2, _, _⟩ := hP.cells
  go_wp2_with fail
  refine (HLO.out _).mono ?_
  rintro _ w3 ⟨rfl, hB⟩
  replace hb := hb.trans (hB.mono hb.size)
  replace hP := hP.below hB
  clear hB q1 q2
  go_wp2_with fail
  refine (HAW.out _ (HG.out.below hb)).mono ?_
  rintro _ w2 ⟨rfl, hB⟩
  go_wp2_with fail
  go_ret
  exact ⟨rfl, hb.trans (hB.mono hb.size)⟩

set_option maxRecDepth 100000 in
set_option maxHeartbeats 16000000 in
theorem amb_ok (haw : ∀ W, Ground W → Calls Tryz.prog 13 #[] W (ValP (.bool true) W)) (hput : ∀ {n : Nat} {u v : Nat → ByteArray} {c z : ByteArray}, Shrt n u v → c.size ≤ 8 → z.size ≤ 13 → OnM 20 n u v c z (BagP (putO n u v c z).1 (putO n u v c z).2)) (hneg : ∀ {n : Nat} {u v : Nat → ByteArray}, Shrt n u v → On1 22 n u v (BagP (negO n u v).1 (negO n u v).2)) (hchk : ∀ {n : Nat} {u v : Nat → ByteArray}, Shrt n u v → On1 24 n u v (ValP (.int .i64 (bagE isCan n u v)))) (hamt : ∀ {n : Nat} {u v : Nat → ByteArray} (c : ByteArray), Shrt n u v → OnC 26 n u v c (ValP (.string (amtS n u v c)))) (xa : Option Addr) (n ca : Nat) (u v : Nat → ByteArray) (c z : ByteArray) (w : World) (hG : Ground w) (hx : Rf w xa n u v) (hn : n ≤ 9223372036854775807) (hg : greatB n u v = false) (hl : wideB c z = false) :
    Calls Tryz.prog 4 #[.slice xa n (n + ca), .agg #[.string c, .string z]] w (ValP (.bool true) w) := by
  obtain ⟨W0, hW0⟩ : ∃ W, W = w.alloc (.cells #[.string c, .string z] 35) := ⟨_, rfl⟩
  have hP0 : PairAt W0 w.heap.size 35 c z := by rw [hW0]; exact PairAt.made _ _ _ _
  have hb0 : Below w.heap.size w W0 := by rw [hW0]; exact (Below.refl _ _).alloc (Nat.le_refl _) _
  have HGR := Lib.hid (great_one (ca := n + ca) (hx.belowAt hb0 (Nat.le_refl _)) hn)
  rw [hg] at HGR
  have HP := Lib.hid hP0
  have HB := Lib.hid hb0
  have HAW := Lib.hid haw
  have HG := Lib.hid hG
  unfold ValP at HAW ⊢
  have HLO := Lib.hid (fun W => rLongM c z W)
  rw [hl] at HLO
  have hsa := shrt_of hg
  have hcs : c.size ≤ 8 ∧ z.size ≤ 13 := by unfold wideB longA at hl; simp at hl; omega
  have P1 := Lib.hid (hput hsa hcs.1 hcs.2)
  have P2 := Lib.hid (ref_put hsa hcs.1 hcs.2)
  have N1 := Lib.hid (hneg hsa)
  have N2 := Lib.hid (ref_neg hsa)
  have C1 := Lib.hid (hchk hsa)
  have C2 := Lib.hid (ref_chk hsa)
  have A1 := Lib.hid (hamt c hsa)
  have A2 := Lib.hid (ref_amt c hsa)
  have hpf := put_few (n := n) (u := u) (v := v) (c := c) (z := z)
  have hnf := neg_few (u := u) (v := v) hsa.max
  obtain ⟨b, hb1⟩ : ∃ b, (putO n u v c z).1 = b := ⟨_, rfl⟩
  obtain ⟨e1, he1⟩ : ∃ e, (putO n u v c z).2 = e := ⟨_, rfl⟩
  obtain ⟨d, hd1⟩ : ∃ b, (negO n u v).1 = b := ⟨_, rfl⟩
  obtain ⟨e2, he2⟩ : ∃ e, (negO n u v).2 = e := ⟨_, rfl⟩
  obtain ⟨e3, he3⟩ : ∃ e, bagE isCan n u v = e := ⟨_, rfl⟩
  obtain ⟨am, ham⟩ : ∃ e, amtS n u v c = e := ⟨_, rfl⟩
  rw [hb1, he1] at P1 P2
  rw [hb1] at hpf
  rw [hd1, he2] at N1 N2
  rw [hd1] at hnf
  rw [he3] at C1 C2
  rw [ham] at A1 A2
  have HX := Lib.hid hx
  have E1 := Lib.hid (fun W xa ya ca cb ar br => (eqMoney W xa ya b.length ca cb (atU b) (fun i => cS (atX b i)) (atU b) (fun i => cS (atX b i)) ar br (by omega)).mono (R' := fun e w' => e = .returned (.bool (sameM b.length (atU b) (fun i => cS (atX b i)) (atU b) (fun i => cS (atX b i)))) ∧ Below W.heap.size W w') fun _ _ h => ⟨h.1, by obtain ⟨q, hq⟩ := h.2; rw [hq]; exact below_drewN (Below.refl _ _) q⟩)
  have E2 := Lib.hid (fun W xa ya ca cb ar br => (eqMoney W xa ya d.length ca cb (atU d) (fun i => cS (atX d i)) (atU d) (fun i => cS (atX d i)) ar br (by omega)).mono (R' := fun e w' => e = .returned (.bool (sameM d.length (atU d) (fun i => cS (atX d i)) (atU d) (fun i => cS (atX d i)))) ∧ Below W.heap.size W w') fun _ _ h => ⟨h.1, by obtain ⟨q, hq⟩ := h.2; rw [hq]; exact below_drewN (Below.refl _ _) q⟩)
  rw [show sameM b.length (atU b) (fun i => cS (atX b i)) (atU b) (fun i => cS (atX b i)) = true from decide_eq_true fun _ _ => ⟨rfl, rfl⟩] at E1
  rw [show sameM d.length (atU d) (fun i => cS (atX d i)) (atU d) (fun i => cS (atX d i)) = true from decide_eq_true fun _ _ => ⟨rfl, rfl⟩] at E2
  unfold OnM BagP at P1
  unfold OnM BagP0 at P2
  unfold On1 BagP at N1
  unfold On1 BagP0 at N2
  unfold On1 ValP at C1 C2
  unfold OnC ValP at A1 A2
  clear hx hg haw hG hn hP0 hb0 hl hsa hcs hb1 he1 hd1 he2 he3 ham hput hneg hchk hamt
  go_enter Tryz.func4, Tryz.ntmps4
  go_upto_region 1 with fail
  rw [← hW0]
  clear hW0
  obtain ⟨q1, q2, _, _⟩ := HP.out.cells
  go_wp2_with fail
  refine HGR.out.mono ?_
  rintro _ w1 ⟨rfl, hB⟩
  have hb := HB.out.trans (hB.mono HB.out.size)
  have hP := HP.out.below hB
  clear hB q1 q2 HGR HB HP
  obtain ⟨q1, q2, _, _⟩ := hP.cells
  go_wp2_with fail
  refine (HLO.out _).mono ?_
  rintro _ w3 ⟨rfl, hB⟩
  replace hb := hb.trans (hB.mono hb.size)
  replace hP := hP.below hB
  clear hB q1 q2
  obtain ⟨q1, q2, _, _⟩ := hP.cells
  go_wp2_with fail
  refine Calls.mono (P1.out _ _ _ (HG.out.below hb) (HX.out.belowAt hb (Nat.le_refl _))) ?_
  rintro _ _ ⟨aa, ac, rfl, ar, hB⟩
  replace hb := hb.trans (hB.mono hb.size)
  replace hP := hP.below hB
  clear hB q1 q2
  obtain ⟨q1, q2, _, _⟩ := hP.cells
  go_wp2_with fail
  refine Calls.mono (P2.out _ _ _ (HG.out.below hb) (HX.out.belowAt hb (Nat.le_refl _))) ?_
  rintro _ _ ⟨ba, bc, rfl, br, hB⟩
  replace ar := Rc.below ar hB
  replace hb := hb.trans (hB.mono hb.size)
  replace hP := hP.below hB
  clear hB q1 q2
  obtain ⟨q1, q2, _, _⟩ := hP.cells
  go_wp2_with fail
  refine Calls.mono (N1.out _ _ _ (HG.out.below hb) (HX.out.belowAt hb (Nat.le_refl _))) ?_
  rintro _ _ ⟨ca, cc, rfl, cr, hB⟩
  replace ar := Rc.below ar hB
  replace br := Rc.below br hB
  replace hb := hb.trans (hB.mono hb.size)
  replace hP := hP.below hB
  clear hB q1 q2
  obtain ⟨q1, q2, _, _⟩ := hP.cells
  go_wp2_with fail
  refine Calls.mono (N2.out _ _ _ (HG.out.below hb) (HX.out.belowAt hb (Nat.le_refl _))) ?_
  rintro _ _ ⟨da, dc, rfl, dr, hB⟩
  replace ar := Rc.below ar hB
  replace br := Rc.below br hB
  replace cr := Rc.below cr hB
  replace hb := hb.trans (hB.mono hb.size)
  replace hP := hP.below hB
  clear hB q1 q2
  obtain ⟨q1, q2, _, _⟩ := hP.cells
  go_wp2_with fail
  refine wp_region_held_drew (S := fun w' => w'.cell? ⟨w.heap.size, 0, none⟩ = some (.string c) ∧ w'.cell? ⟨w.heap.size, 1, none⟩ = some (.string z)) (by kernel_rfl) (by (try dsimp only); go_keep) (fun hHeld => ?_)
  refine wpAnyH_take (i := 0) (oi := { dst := some 43, op := Op.move (Operand.tmp 0), type := 32, pos := "law.go:54", after := #[], guard := none }) (v := ?_) rfl (by kernel_rfl) (by kernel_rfl) (by kernel_rfl) (fun _ _ _ h => h) (Or.inl ⟨by rfl, ?_⟩) (by assumption) ?_
  rotate_left
  focus ((intro w hSw; (try dsimp only at hSw); go_simp); (try with_reducible rfl))
  try simp only [Act.put, List.setIfInBounds_toArray, List.set_cons_zero, List.set_cons_succ]
  refine wpAnyH_take (i := 2) (oi := { dst := some 45, op := Op.move (Operand.tmp 0), type := 32, pos := "law.go:54", after := #[], guard := none }) (v := ?_) rfl (by kernel_rfl) (by kernel_rfl) (by kernel_rfl) (fun _ _ _ h => h) (Or.inl ⟨by rfl, ?_⟩) (by assumption) ?_
  rotate_left
  focus ((intro w hSw; (try dsimp only at hSw); go_simp); (try with_reducible rfl))
  try simp only [Act.put, List.setIfInBounds_toArray, List.set_cons_zero, List.set_cons_succ]
  refine wpAnyH_ready (rs := [1]) (by kernel_rfl) (by simp) ?_
  refine AllReadyH.cons (o := { dst := some 44, op := Op.call { callee := Callee.value (Operand.func 24), args := #[Operand.tmp 43], argTypes := #[32] }, type := 29, pos := "law.go:54", after := #[{ on := 0, ground := Ground.data }], guard := none }) rfl (fun K hK => ?_) AllReadyH.nil
  clear hHeld
  go_simp
  replace hb := below_drew hb
  replace ar := Rc.drewN ar 1
  replace br := Rc.drewN br 1
  replace cr := Rc.drewN cr 1
  replace dr := Rc.drewN dr 1
  have hP3 := Lib.hid (show PairAt (World.drewN _ 1) w.heap.size 35 c z from hP)
  clear hP
  have hP := hP3.out
  clear hP3
  refine Calls.mono (C1.out _ _ _ (HG.out.below hb) (HX.out.belowAt hb (Nat.le_refl _))) ?_
  rintro _ WX ⟨rfl, hB1⟩
  have hP2 := Lib.hid (PairAt.below hP hB1)
  replace ar := Rc.below ar hB1
  replace br := Rc.below br hB1
  replace cr := Rc.below cr hB1
  replace dr := Rc.below dr hB1
  replace hb := hb.trans (hB1.mono hb.size)
  clear hP
  have hP := hP2.out
  clear hP2 hB1
  clear q1 q2
  obtain ⟨q1, q2, _, _⟩ := hP.cells
  go_wp2_with fail
  refine hK.out _ _ (by (try dsimp only); go_keep) (fun hHeld => ?_)
  clear hK K
  try simp only [Act.put, List.setIfInBounds_toArray, List.set_cons_zero, List.set_cons_succ]
  refine wpAnyH_ready (rs := [3]) (by kernel_rfl) (by simp) ?_
  refine AllReadyH.cons (o := { dst := some 46, op := Op.call { callee := Callee.value (Operand.func 25), args := #[Operand.tmp 45], argTypes := #[32] }, type := 29, pos := "law.go:54", after := #[{ on := 2, ground := Ground.data }, { on := 1, ground := Ground.chain }], guard := none }) rfl (fun K hK => ?_) AllReadyH.nil
  clear hHeld
  go_simp
  refine Calls.mono (C2.out _ _ _ (HG.out.below hb) (HX.out.belowAt hb (Nat.le_refl _))) ?_
  rintro _ WX ⟨rfl, hB1⟩
  have hP2 := Lib.hid (PairAt.below hP hB1)
  replace ar := Rc.below ar hB1
  replace br := Rc.below br hB1
  replace cr := Rc.below cr hB1
  replace dr := Rc.below dr hB1
  replace hb := hb.trans (hB1.mono hb.size)
  clear hP
  have hP := hP2.out
  clear hP2 hB1
  clear q1 q2
  obtain ⟨q1, q2, _, _⟩ := hP.cells
  go_wp2_with fail
  refine hK.out _ _ (by (try dsimp only); go_keep) (fun hHeld => ?_)
  clear hK K
  try simp only [Act.put, List.setIfInBounds_toArray, List.set_cons_zero, List.set_cons_succ]
  refine wpAnyH_take (i := 4) (oi := { dst := some 47, op := Op.binOp BinOp.eql 29 (Operand.tmp 44) (Operand.tmp 46) 29, type := 4, pos := "law.go:54", after := #[{ on := 1, ground := Ground.data }, { on := 3, ground := Ground.data }], guard := none }) (v := ?_) rfl (by kernel_rfl) (by kernel_rfl) (by kernel_rfl) (fun _ _ _ h => h) (Or.inl ⟨by rfl, ?_⟩) (by assumption) ?_
  rotate_left
  focus ((intro w hSw; (try dsimp only at hSw); go_simp); (try with_reducible rfl))
  try simp only [Act.put, List.setIfInBounds_toArray, List.set_cons_zero, List.set_cons_succ]
  refine wpAnyH_take (i := 5) (oi := { dst := some 48, op := Op.move (Operand.tmp 47), type := 4, pos := "law.go:54", after := #[{ on := 4, ground := Ground.data }, { on := 3, ground := Ground.chain }], guard := none }) (v := ?_) rfl (by kernel_rfl) (by kernel_rfl) (by kernel_rfl) (fun _ _ _ h => h) (Or.inl ⟨by rfl, ?_⟩) (by assumption) ?_
  rotate_left
  focus ((intro w hSw; (try dsimp only at hSw); go_simp); (try with_reducible rfl))
  try simp only [Act.put, List.setIfInBounds_toArray, List.set_cons_zero, List.set_cons_succ]
  refine wpAnyH_take (i := 6) (oi := { dst := some 49, op := Op.move (Operand.tmp 0), type := 32, pos := "law.go:54", after := #[{ on := 5, ground := Ground.guard }], guard := some (5, true) }) (v := ?_) rfl (by kernel_rfl) (by kernel_rfl) (by kernel_rfl) (fun _ _ _ h => h) (Or.inl ⟨by rfl, ?_⟩) (by assumption) ?_
  rotate_left
  focus ((intro w hSw; (try dsimp only at hSw); go_simp); (try with_reducible rfl))
  try simp only [Act.put, List.setIfInBounds_toArray, List.set_cons_zero, List.set_cons_succ]
  refine wpAnyH_take (i := 7) (oi := { dst := some 50, op := Op.fieldAddr 35 (Operand.tmp 3) 0, type := 0, pos := "law.go:54", after := #[{ on := 5, ground := Ground.guard }], guard := some (5, true) }) (v := ?_) rfl (by kernel_rfl) (by kernel_rfl) (by kernel_rfl) (fun _ _ _ h => h) (Or.inl ⟨by rfl, ?_⟩) (by assumption) ?_
  rotate_left
  focus ((intro w hSw; (try dsimp only at hSw); go_simp); (try with_reducible rfl))
  try simp only [Act.put, List.setIfInBounds_toArray, List.set_cons_zero, List.set_cons_succ]
  refine wpAnyH_take (i := 8) (oi := { dst := some 51, op := Op.load 9 (Operand.tmp 50), type := 9, pos := "law.go:54", after := #[{ on := 7, ground := Ground.data }, { on := 5, ground := Ground.guard }], guard := some (5, true) }) (v := ?_) rfl (by kernel_rfl) (by kernel_rfl) (by kernel_rfl) (fun _ _ _ h => h) (Or.inl ⟨by rfl, ?_⟩) (by assumption) ?_
  rotate_left
  focus ((intro w hSw; (try dsimp only at hSw); go_simp); (try with_reducible rfl))
  try simp only [Act.put, List.setIfInBounds_toArray, List.set_cons_zero, List.set_cons_succ]
  refine wpAnyH_take (i := 10) (oi := { dst := some 53, op := Op.move (Operand.tmp 0), type := 32, pos := "law.go:54", after := #[{ on := 5, ground := Ground.guard }], guard := some (5, true) }) (v := ?_) rfl (by kernel_rfl) (by kernel_rfl) (by kernel_rfl) (fun _ _ _ h => h) (Or.inl ⟨by rfl, ?_⟩) (by assumption) ?_
  rotate_left
  focus ((intro w hSw; (try dsimp only at hSw); go_simp); (try with_reducible rfl))
  try simp only [Act.put, List.setIfInBounds_toArray, List.set_cons_zero, List.set_cons_succ]
  refine wpAnyH_take (i := 11) (oi := { dst := some 54, op := Op.fieldAddr 35 (Operand.tmp 3) 0, type := 0, pos := "law.go:54", after := #[{ on := 5, ground := Ground.guard }], guard := some (5, true) }) (v := ?_) rfl (by kernel_rfl) (by kernel_rfl) (by kernel_rfl) (fun _ _ _ h => h) (Or.inl ⟨by rfl, ?_⟩) (by assumption) ?_
  rotate_left
  focus ((intro w hSw; (try dsimp only at hSw); go_simp); (try with_reducible rfl))
  try simp only [Act.put, List.setIfInBounds_toArray, List.set_cons_zero, List.set_cons_succ]
  refine wpAnyH_take (i := 12) (oi := { dst := some 55, op := Op.load 9 (Operand.tmp 54), type := 9, pos := "law.go:54", after := #[{ on := 11, ground := Ground.data }, { on := 5, ground := Ground.guard }], guard := some (5, true) }) (v := ?_) rfl (by kernel_rfl) (by kernel_rfl) (by kernel_rfl) (fun _ _ _ h => h) (Or.inl ⟨by rfl, ?_⟩) (by assumption) ?_
  rotate_left
  focus ((intro w hSw; (try dsimp only at hSw); go_simp); (try with_reducible rfl))
  try simp only [Act.put, List.setIfInBounds_toArray, List.set_cons_zero, List.set_cons_succ]
  refine wpAnyH_ready (rs := [9]) (by kernel_rfl) (by simp) ?_
  refine AllReadyH.cons (o := { dst := some 52, op := Op.call { callee := Callee.value (Operand.func 26), args := #[Operand.tmp 49, Operand.tmp 51], argTypes := #[32, 9] }, type := 33, pos := "law.go:54", after := #[{ on := 6, ground := Ground.data }, { on := 8, ground := Ground.data }, { on := 5, ground := Ground.chain }, { on := 5, ground := Ground.guard }], guard := some (5, true) }) rfl (fun K hK => ?_) AllReadyH.nil
  clear hHeld
  go_simp
  refine Calls.mono (A1.out _ _ _ (HG.out.below hb) (HX.out.belowAt hb (Nat.le_refl _))) ?_
  rintro _ WX ⟨rfl, hB1⟩
  have hP2 := Lib.hid (PairAt.below hP hB1)
  replace ar := Rc.below ar hB1
  replace br := Rc.below br hB1
  replace cr := Rc.below cr hB1
  replace dr := Rc.below dr hB1
  replace hb := hb.trans (hB1.mono hb.size)
  clear hP
  have hP := hP2.out
  clear hP2 hB1
  clear q1 q2
  obtain ⟨q1, q2, _, _⟩ := hP.cells
  go_wp2_with fail
  refine hK.out _ _ (by (try dsimp only); go_keep) (fun hHeld => ?_)
  clear hK K
  try simp only [Act.put, List.setIfInBounds_toArray, List.set_cons_zero, List.set_cons_succ]
  refine wpAnyH_ready (rs := [13]) (by kernel_rfl) (by simp) ?_
  refine AllReadyH.cons (o := { dst := some 56, op := Op.call { callee := Callee.value (Operand.func 27), args := #[Operand.tmp 53, Operand.tmp 55], argTypes := #[32, 9] }, type := 33, pos := "law.go:54", after := #[{ on := 10, ground := Ground.data }, { on := 12, ground := Ground.data }, { on := 9, ground := Ground.chain }, { on := 5, ground := Ground.guard }], guard := some (5, true) }) rfl (fun K hK => ?_) AllReadyH.nil
  clear hHeld
  go_simp
  refine Calls.mono (A2.out _ _ _ (HG.out.below hb) (HX.out.belowAt hb (Nat.le_refl _))) ?_
  rintro _ WX ⟨rfl, hB1⟩
  have hP2 := Lib.hid (PairAt.below hP hB1)
  replace ar := Rc.below ar hB1
  replace br := Rc.below br hB1
  replace cr := Rc.below cr hB1
  replace dr := Rc.below dr hB1
  replace hb := hb.trans (hB1.mono hb.size)
  clear hP
  have hP := hP2.out
  clear hP2 hB1
  clear q1 q2
  obtain ⟨q1, q2, _, _⟩ := hP.cells
  go_wp2_with fail
  refine hK.out _ _ (by (try dsimp only); go_keep) (fun hHeld => ?_)
  clear hK K
  try simp only [Act.put, List.setIfInBounds_toArray, List.set_cons_zero, List.set_cons_succ]
  refine wpAnyH_take (i := 14) (oi := { dst := some 57, op := Op.binOp BinOp.eql 33 (Operand.tmp 52) (Operand.tmp 56) 33, type := 4, pos := "law.go:54", after := #[{ on := 9, ground := Ground.data }, { on := 13, ground := Ground.data }, { on := 5, ground := Ground.guard }], guard := some (5, true) }) (v := ?_) rfl (by kernel_rfl) (by kernel_rfl) (by kernel_rfl) (fun _ _ _ h => h) (Or.inl ⟨by rfl, ?_⟩) (by assumption) ?_
  rotate_left
  focus ((intro w hSw; (try dsimp only at hSw); go_simp); (try with_reducible rfl))
  try simp only [Act.put, List.setIfInBounds_toArray, List.set_cons_zero, List.set_cons_succ]
  refine wpAnyH_take (i := 15) (oi := { dst := some 58, op := Op.pick (Operand.tmp 48) (Operand.tmp 57) (Operand.const (Value.bool false)), type := 4, pos := "law.go:54", after := #[{ on := 5, ground := Ground.data }, { on := 14, ground := Ground.data }], guard := none }) (v := ?_) rfl (by kernel_rfl) (by kernel_rfl) (by kernel_rfl) (fun _ _ _ h => h) (Or.inl ⟨by rfl, ?_⟩) (by assumption) ?_
  rotate_left
  focus ((intro w hSw; (try dsimp only at hSw); go_simp); (try with_reducible rfl))
  try simp only [Act.put, List.setIfInBounds_toArray, List.set_cons_zero, List.set_cons_succ]
  refine wpAnyH_take (i := 16) (oi := { dst := some 59, op := Op.move (Operand.tmp 58), type := 4, pos := "law.go:54", after := #[{ on := 15, ground := Ground.data }, { on := 13, ground := Ground.chain }], guard := none }) (v := ?_) rfl (by kernel_rfl) (by kernel_rfl) (by kernel_rfl) (fun _ _ _ h => h) (Or.inl ⟨by rfl, ?_⟩) (by assumption) ?_
  rotate_left
  focus ((intro w hSw; (try dsimp only at hSw); go_simp); (try with_reducible rfl))
  try simp only [Act.put, List.setIfInBounds_toArray, List.set_cons_zero, List.set_cons_succ]
  refine wpAnyH_take (i := 17) (oi := { dst := some 60, op := Op.move (Operand.tmp 5), type := 32, pos := "law.go:54", after := #[{ on := 16, ground := Ground.guard }], guard := some (16, true) }) (v := ?_) rfl (by kernel_rfl) (by kernel_rfl) (by kernel_rfl) (fun _ _ _ h => h) (Or.inl ⟨by rfl, ?_⟩) (by assumption) ?_
  rotate_left
  focus ((intro w hSw; (try dsimp only at hSw); go_simp); (try with_reducible rfl))
  try simp only [Act.put, List.setIfInBounds_toArray, List.set_cons_zero, List.set_cons_succ]
  refine wpAnyH_take (i := 18) (oi := { dst := some 61, op := Op.move (Operand.tmp 7), type := 32, pos := "law.go:54", after := #[{ on := 16, ground := Ground.guard }], guard := some (16, true) }) (v := ?_) rfl (by kernel_rfl) (by kernel_rfl) (by kernel_rfl) (fun _ _ _ h => h) (Or.inl ⟨by rfl, ?_⟩) (by assumption) ?_
  rotate_left
  focus ((intro w hSw; (try dsimp only at hSw); go_simp); (try with_reducible rfl))
  try simp only [Act.put, List.setIfInBounds_toArray, List.set_cons_zero, List.set_cons_succ]
  refine wpAnyH_ready (rs := [19]) (by kernel_rfl) (by simp) ?_
  refine AllReadyH.cons (o := { dst := some 62, op := Op.call { callee := Callee.value (Operand.func 28), args := #[Operand.tmp 60, Operand.tmp 61], argTypes := #[32, 32] }, type := 4, pos := "law.go:54", after := #[{ on := 17, ground := Ground.data }, { on := 18, ground := Ground.data }, { on := 16, ground := Ground.chain }, { on := 16, ground := Ground.guard }], guard := some (16, true) }) rfl (fun K hK => ?_) AllReadyH.nil
  clear hHeld
  go_simp
  refine Calls.mono (E1.out _ _ _ _ _ ar br) ?_
  rintro _ WX ⟨rfl, hB1⟩
  have hP2 := Lib.hid (PairAt.below hP hB1)
  replace cr := Rc.below cr hB1
  replace dr := Rc.below dr hB1
  replace hb := hb.trans (hB1.mono hb.size)
  clear hP
  have hP := hP2.out
  clear hP2 hB1
  clear q1 q2
  obtain ⟨q1, q2, _, _⟩ := hP.cells
  go_wp2_with fail
  refine hK.out _ _ (by (try dsimp only); go_keep) (fun hHeld => ?_)
  clear hK K
  try simp only [Act.put, List.setIfInBounds_toArray, List.set_cons_zero, List.set_cons_succ]
  refine wpAnyH_take (i := 20) (oi := { dst := some 63, op := Op.pick (Operand.tmp 59) (Operand.tmp 62) (Operand.const (Value.bool false)), type := 4, pos := "law.go:54", after := #[{ on := 16, ground := Ground.data }, { on := 19, ground := Ground.data }], guard := none }) (v := ?_) rfl (by kernel_rfl) (by kernel_rfl) (by kernel_rfl) (fun _ _ _ h => h) (Or.inl ⟨by rfl, ?_⟩) (by assumption) ?_
  rotate_left
  focus ((intro w hSw; (try dsimp only at hSw); go_simp); (try with_reducible rfl))
  try simp only [Act.put, List.setIfInBounds_toArray, List.set_cons_zero, List.set_cons_succ]
  refine wpAnyH_take (i := 21) (oi := { dst := some 64, op := Op.move (Operand.tmp 63), type := 4, pos := "law.go:54", after := #[{ on := 20, ground := Ground.data }, { on := 19, ground := Ground.chain }], guard := none }) (v := ?_) rfl (by kernel_rfl) (by kernel_rfl) (by kernel_rfl) (fun _ _ _ h => h) (Or.inl ⟨by rfl, ?_⟩) (by assumption) ?_
  rotate_left
  focus ((intro w hSw; (try dsimp only at hSw); go_simp); (try with_reducible rfl))
  try simp only [Act.put, List.setIfInBounds_toArray, List.set_cons_zero, List.set_cons_succ]
  refine wpAnyH_take (i := 22) (oi := { dst := some 65, op := Op.move (Operand.tmp 6), type := 29, pos := "law.go:54", after := #[{ on := 21, ground := Ground.guard }], guard := some (21, true) }) (v := ?_) rfl (by kernel_rfl) (by kernel_rfl) (by kernel_rfl) (fun _ _ _ h => h) (Or.inl ⟨by rfl, ?_⟩) (by assumption) ?_
  rotate_left
  focus ((intro w hSw; (try dsimp only at hSw); go_simp); (try with_reducible rfl))
  try simp only [Act.put, List.setIfInBounds_toArray, List.set_cons_zero, List.set_cons_succ]
  refine wpAnyH_take (i := 23) (oi := { dst := some 66, op := Op.move (Operand.tmp 8), type := 29, pos := "law.go:54", after := #[{ on := 21, ground := Ground.guard }], guard := some (21, true) }) (v := ?_) rfl (by kernel_rfl) (by kernel_rfl) (by kernel_rfl) (fun _ _ _ h => h) (Or.inl ⟨by rfl, ?_⟩) (by assumption) ?_
  rotate_left
  focus ((intro w hSw; (try dsimp only at hSw); go_simp); (try with_reducible rfl))
  try simp only [Act.put, List.setIfInBounds_toArray, List.set_cons_zero, List.set_cons_succ]
  refine wpAnyH_take (i := 24) (oi := { dst := some 67, op := Op.binOp BinOp.eql 29 (Operand.tmp 65) (Operand.tmp 66) 29, type := 4, pos := "law.go:54", after := #[{ on := 22, ground := Ground.data }, { on := 23, ground := Ground.data }, { on := 21, ground := Ground.guard }], guard := some (21, true) }) (v := ?_) rfl (by kernel_rfl) (by kernel_rfl) (by kernel_rfl) (fun _ _ _ h => h) (Or.inl ⟨by rfl, ?_⟩) (by assumption) ?_
  rotate_left
  focus ((intro w hSw; (try dsimp only at hSw); go_simp); (try with_reducible rfl))
  try simp only [Act.put, List.setIfInBounds_toArray, List.set_cons_zero, List.set_cons_succ]
  refine wpAnyH_take (i := 25) (oi := { dst := some 68, op := Op.pick (Operand.tmp 64) (Operand.tmp 67) (Operand.const (Value.bool false)), type := 4, pos := "law.go:54", after := #[{ on := 21, ground := Ground.data }, { on := 24, ground := Ground.data }], guard := none }) (v := ?_) rfl (by kernel_rfl) (by kernel_rfl) (by kernel_rfl) (fun _ _ _ h => h) (Or.inl ⟨by rfl, ?_⟩) (by assumption) ?_
  rotate_left
  focus ((intro w hSw; (try dsimp only at hSw); go_simp); (try with_reducible rfl))
  try simp only [Act.put, List.setIfInBounds_toArray, List.set_cons_zero, List.set_cons_succ]
  refine wpAnyH_take (i := 26) (oi := { dst := some 69, op := Op.move (Operand.tmp 68), type := 4, pos := "law.go:54", after := #[{ on := 25, ground := Ground.data }, { on := 21, ground := Ground.chain }], guard := none }) (v := ?_) rfl (by kernel_rfl) (by kernel_rfl) (by kernel_rfl) (fun _ _ _ h => h) (Or.inl ⟨by rfl, ?_⟩) (by assumption) ?_
  rotate_left
  focus ((intro w hSw; (try dsimp only at hSw); go_simp); (try with_reducible rfl))
  try simp only [Act.put, List.setIfInBounds_toArray, List.set_cons_zero, List.set_cons_succ]
  refine wpAnyH_take (i := 27) (oi := { dst := some 70, op := Op.move (Operand.tmp 9), type := 32, pos := "law.go:54", after := #[{ on := 26, ground := Ground.guard }], guard := some (26, true) }) (v := ?_) rfl (by kernel_rfl) (by kernel_rfl) (by kernel_rfl) (fun _ _ _ h => h) (Or.inl ⟨by rfl, ?_⟩) (by assumption) ?_
  rotate_left
  focus ((intro w hSw; (try dsimp only at hSw); go_simp); (try with_reducible rfl))
  try simp only [Act.put, List.setIfInBounds_toArray, List.set_cons_zero, List.set_cons_succ]
  refine wpAnyH_take (i := 28) (oi := { dst := some 71, op := Op.move (Operand.tmp 11), type := 32, pos := "law.go:54", after := #[{ on := 26, ground := Ground.guard }], guard := some (26, true) }) (v := ?_) rfl (by kernel_rfl) (by kernel_rfl) (by kernel_rfl) (fun _ _ _ h => h) (Or.inl ⟨by rfl, ?_⟩) (by assumption) ?_
  rotate_left
  focus ((intro w hSw; (try dsimp only at hSw); go_simp); (try with_reducible rfl))
  try simp only [Act.put, List.setIfInBounds_toArray, List.set_cons_zero, List.set_cons_succ]
  refine wpAnyH_ready (rs := [29]) (by kernel_rfl) (by simp) ?_
  refine AllReadyH.cons (o := { dst := some 72, op := Op.call { callee := Callee.value (Operand.func 28), args := #[Operand.tmp 70, Operand.tmp 71], argTypes := #[32, 32] }, type := 4, pos := "law.go:54", after := #[{ on := 27, ground := Ground.data }, { on := 28, ground := Ground.data }, { on := 26, ground := Ground.chain }, { on := 26, ground := Ground.guard }], guard := some (26, true) }) rfl (fun K hK => ?_) AllReadyH.nil
  clear hHeld
  go_simp
  refine Calls.mono (E2.out _ _ _ _ _ cr dr) ?_
  rintro _ WX ⟨rfl, hB1⟩
  have hP2 := Lib.hid (PairAt.below hP hB1)
  replace hb := hb.trans (hB1.mono hb.size)
  clear hP
  have hP := hP2.out
  clear hP2 hB1
  clear q1 q2
  obtain ⟨q1, q2, _, _⟩ := hP.cells
  go_wp2_with fail
  refine hK.out _ _ (by (try dsimp only); go_keep) (fun hHeld => ?_)
  clear hK K
  try simp only [Act.put, List.setIfInBounds_toArray, List.set_cons_zero, List.set_cons_succ]
  refine wpAnyH_take (i := 30) (oi := { dst := some 73, op := Op.pick (Operand.tmp 69) (Operand.tmp 72) (Operand.const (Value.bool false)), type := 4, pos := "law.go:54", after := #[{ on := 26, ground := Ground.data }, { on := 29, ground := Ground.data }], guard := none }) (v := ?_) rfl (by kernel_rfl) (by kernel_rfl) (by kernel_rfl) (fun _ _ _ h => h) (Or.inl ⟨by rfl, ?_⟩) (by assumption) ?_
  rotate_left
  focus ((intro w hSw; (try dsimp only at hSw); go_simp); (try with_reducible rfl))
  try simp only [Act.put, List.setIfInBounds_toArray, List.set_cons_zero, List.set_cons_succ]
  refine wpAnyH_take (i := 31) (oi := { dst := some 74, op := Op.move (Operand.tmp 73), type := 4, pos := "law.go:54", after := #[{ on := 30, ground := Ground.data }, { on := 29, ground := Ground.chain }], guard := none }) (v := ?_) rfl (by kernel_rfl) (by kernel_rfl) (by kernel_rfl) (fun _ _ _ h => h) (Or.inl ⟨by rfl, ?_⟩) (by assumption) ?_
  rotate_left
  focus ((intro w hSw; (try dsimp only at hSw); go_simp); (try with_reducible rfl))
  try simp only [Act.put, List.setIfInBounds_toArray, List.set_cons_zero, List.set_cons_succ]
  refine wpAnyH_take (i := 32) (oi := { dst := some 75, op := Op.move (Operand.tmp 10), type := 29, pos := "law.go:54", after := #[{ on := 31, ground := Ground.guard }], guard := some (31, true) }) (v := ?_) rfl (by kernel_rfl) (by kernel_rfl) (by kernel_rfl) (fun _ _ _ h => h) (Or.inl ⟨by rfl, ?_⟩) (by assumption) ?_
  rotate_left
  focus ((intro w hSw; (try dsimp only at hSw); go_simp); (try with_reducible rfl))
  try simp only [Act.put, List.setIfInBounds_toArray, List.set_cons_zero, List.set_cons_succ]
  refine wpAnyH_take (i := 33) (oi := { dst := some 76, op := Op.move (Operand.tmp 12), type := 29, pos := "law.go:54", after := #[{ on := 31, ground := Ground.guard }], guard := some (31, true) }) (v := ?_) rfl (by kernel_rfl) (by kernel_rfl) (by kernel_rfl) (fun _ _ _ h => h) (Or.inl ⟨by rfl, ?_⟩) (by assumption) ?_
  rotate_left
  focus ((intro w hSw; (try dsimp only at hSw); go_simp); (try with_reducible rfl))
  try simp only [Act.put, List.setIfInBounds_toArray, List.set_cons_zero, List.set_cons_succ]
  refine wpAnyH_take (i := 34) (oi := { dst := some 77, op := Op.binOp BinOp.eql 29 (Operand.tmp 75) (Operand.tmp 76) 29, type := 4, pos := "law.go:54", after := #[{ on := 32, ground := Ground.data }, { on := 33, ground := Ground.data }, { on := 31, ground := Ground.guard }], guard := some (31, true) }) (v := ?_) rfl (by kernel_rfl) (by kernel_rfl) (by kernel_rfl) (fun _ _ _ h => h) (Or.inl ⟨by rfl, ?_⟩) (by assumption) ?_
  rotate_left
  focus ((intro w hSw; (try dsimp only at hSw); go_simp); (try with_reducible rfl))
  try simp only [Act.put, List.setIfInBounds_toArray, List.set_cons_zero, List.set_cons_succ]
  refine wpAnyH_take (i := 35) (oi := { dst := some 78, op := Op.pick (Operand.tmp 74) (Operand.tmp 77) (Operand.const (Value.bool false)), type := 4, pos := "law.go:54", after := #[{ on := 31, ground := Ground.data }, { on := 34, ground := Ground.data }], guard := none }) (v := ?_) rfl (by kernel_rfl) (by kernel_rfl) (by kernel_rfl) (fun _ _ _ h => h) (Or.inl ⟨by rfl, ?_⟩) (by assumption) ?_
  rotate_left
  focus ((intro w hSw; (try dsimp only at hSw); go_simp); (try with_reducible rfl))
  try simp only [Act.put, List.setIfInBounds_toArray, List.set_cons_zero, List.set_cons_succ]
  refine wpAnyH_take (i := 36) (oi := { dst := some 79, op := Op.move (Operand.tmp 78), type := 4, pos := "law.go:54", after := #[{ on := 35, ground := Ground.data }, { on := 31, ground := Ground.chain }], guard := none }) (v := ?_) rfl (by kernel_rfl) (by kernel_rfl) (by kernel_rfl) (fun _ _ _ h => h) (Or.inl ⟨by rfl, ?_⟩) (by assumption) ?_
  rotate_left
  focus ((intro w hSw; (try dsimp only at hSw); go_simp); (try with_reducible rfl))
  try simp only [Act.put, List.setIfInBounds_toArray, List.set_cons_zero, List.set_cons_succ]
  refine wpAnyH_ready (rs := [37]) (by kernel_rfl) (by simp) ?_
  refine AllReadyH.cons (o := { dst := some 80, op := Op.call { callee := Callee.value (Operand.func 13), args := #[], argTypes := #[] }, type := 4, pos := "law.go:54", after := #[{ on := 36, ground := Ground.chain }, { on := 36, ground := Ground.guard }], guard := some (36, true) }) rfl (fun K hK => ?_) AllReadyH.nil
  clear hHeld
  go_simp
  refine Calls.mono (HAW.out _ (HG.out.below hb)) ?_
  rintro _ WX ⟨rfl, hB1⟩
  have hP2 := Lib.hid (PairAt.below hP hB1)
  replace hb := hb.trans (hB1.mono hb.size)
  clear hP
  have hP := hP2.out
  clear hP2 hB1
  clear q1 q2
  obtain ⟨q1, q2, _, _⟩ := hP.cells
  go_wp2_with fail
  refine hK.out _ _ (by (try dsimp only); go_keep) (fun hHeld => ?_)
  clear hK K
  try simp only [Act.put, List.setIfInBounds_toArray, List.set_cons_zero, List.set_cons_succ]
  refine wpAnyH_take (i := 38) (oi := { dst := some 81, op := Op.pick (Operand.tmp 79) (Operand.tmp 80) (Operand.const (Value.bool false)), type := 4, pos := "law.go:54", after := #[{ on := 36, ground := Ground.data }, { on := 37, ground := Ground.data }], guard := none }) (v := ?_) rfl (by kernel_rfl) (by kernel_rfl) (by kernel_rfl) (fun _ _ _ h => h) (Or.inl ⟨by rfl, ?_⟩) (by assumption) ?_
  rotate_left
  focus ((intro w hSw; (try dsimp only at hSw); go_simp); (try with_reducible rfl))
  try simp only [Act.put, List.setIfInBounds_toArray, List.set_cons_zero, List.set_cons_succ]
  refine wpAnyH_take (i := 39) (oi := { dst := some 4, op := Op.assign (Operand.tmp 81), type := 4, pos := "law.go:54", after := #[{ on := 38, ground := Ground.data }, { on := 37, ground := Ground.chain }, { on := 0, ground := Ground.phase }, { on := 1, ground := Ground.phase }, { on := 2, ground := Ground.phase }, { on := 3, ground := Ground.phase }, { on := 4, ground := Ground.phase }, { on := 5, ground := Ground.phase }, { on := 6, ground := Ground.phase }, { on := 7, ground := Ground.phase }, { on := 8, ground := Ground.phase }, { on := 9, ground := Ground.phase }, { on := 10, ground := Ground.phase }, { on := 11, ground := Ground.phase }, { on := 12, ground := Ground.phase }, { on := 13, ground := Ground.phase }, { on := 14, ground := Ground.phase }, { on := 15, ground := Ground.phase }, { on := 16, ground := Ground.phase }, { on := 17, ground := Ground.phase }, { on := 18, ground := Ground.phase }, { on := 19, ground := Ground.phase }, { on := 20, ground := Ground.phase }, { on := 21, ground := Ground.phase }, { on := 22, ground := Ground.phase }, { on := 23, ground := Ground.phase }, { on := 24, ground := Ground.phase }, { on := 25, ground := Ground.phase }, { on := 26, ground := Ground.phase }, { on := 27, ground := Ground.phase }, { on := 28, ground := Ground.phase }, { on := 29, ground := Ground.phase }, { on := 30, ground := Ground.phase }, { on := 31, ground := Ground.phase }, { on := 32, ground := Ground.phase }, { on := 33, ground := Ground.phase }, { on := 34, ground := Ground.phase }, { on := 35, ground := Ground.phase }, { on := 36, ground := Ground.phase }, { on := 37, ground := Ground.phase }, { on := 38, ground := Ground.phase }], guard := none }) (v := ?_) rfl (by kernel_rfl) (by kernel_rfl) (by kernel_rfl) (fun _ _ _ h => h) (Or.inl ⟨by rfl, ?_⟩) (by assumption) ?_
  rotate_left
  focus ((intro w hSw; (try dsimp only at hSw); go_simp); (try with_reducible rfl))
  try simp only [Act.put, List.setIfInBounds_toArray, List.set_cons_zero, List.set_cons_succ]
  refine wpAnyH_done (by kernel_rfl) ?_ _
  clear hHeld
  go_wp2_with fail
  go_ret
  exact ⟨rfl, hb⟩

end Go.Proofs.YtahnkmkmoalbhaaGreatDoor

/- Layer 5, the program: Sum, Put, Neg, as the laws ask them. -/
namespace Go.Proofs.YtahnkmkmoalbhaaGreatDoor
open Go.RowKit Go.Shelf

theorem pAdd (xa ya : Option Addr) (N M ca cb : Nat) (u v s t : Nat → ByteArray) (w : World) (hG : Ground w) (hx : Rf w xa N u v) (hy : Rf w ya M s t) (hca : N ≤ ca) (hcb : M ≤ cb) (hN : N ≤ 1000) (hM : M ≤ 1000)
    (hv : ∀ k, k < N → (v k).size ≤ 1000) (ht : ∀ k, k < M → (t k).size ≤ 1000) (ha : Asc (rowB N u v)) (na : NZ (rowB N u v)) (hb : Asc (rowB M s t)) (P : Bag × Int)
    (hP : P = if 16 < (addB (rowB N u v) (rowB M s t)).length then ([], 4) else (addB (rowB N u v) (rowB M s t), 0)) :
    Calls Tryz.prog 54 #[.slice xa N ca, .slice ya M cb] w (BagP P.1 P.2 w) :=
  callsIn_wide.1 (add_in 3 (Nat.le_refl _) xa ya N M ca cb u v s t w hG hx hy hca hcb hN hM hv ht ha na hb P hP)
theorem bagP_nil (W : World) {c : Int} {w' : World} (h : Below W.heap.size W w') : BagP [] c W (.returned (.tuple #[.slice none 0 0, .int .i64 c])) w' := ⟨none, 0, rfl, Rc.nil _ _ _, h⟩
theorem BagP.from {b : Bag} {c : Int} {W V : World} {e : Ending} {w' : World} (h : BagP b c V e w') (hb : Below W.heap.size W V) : BagP b c W e w' := by
  obtain ⟨za, cz, h1, h2, h3⟩ := h
  exact ⟨za, cz, h1, h2, hb.trans (h3.mono hb.size)⟩
theorem okB_of' {n : Nat} {u v : Nat → ByteArray} (h : bagE isCan n u v = 0) : Asc (rowB n u v) ∧ NZ (rowB n u v) := by
  have g := bagE_zero h
  exact ⟨bagL_asc g.asc, good_nz g⟩
set_option maxRecDepth 100000 in
set_option maxHeartbeats 16000000 in
theorem pSum_a {n m : Nat} {u v s t : Nat → ByteArray} (ha : Shrt n u v) (hb : Shrt m s t) (h1 : bagE isCan n u v ≠ 0) (W : World) (xa ya : Option Addr) (ca cb : Nat) (hG : Ground W) (hx : Rf W xa n u v) (hy : Rf W ya m s t) :
    Calls Tryz.prog 29 #[.slice xa n (n + ca), .slice ya m (m + cb)] W (BagP [] 1 W) := by
  have HCA := Lib.hid (pBag W xa n (n + ca) u v hx ha.fit)
  obtain ⟨d, hd⟩ : ∃ d, bagE isCan n u v = d := ⟨_, rfl⟩
  rw [hd] at HCA
  have hdb : (d != 0) = true := by rw [bne_iff_ne, ← hd]; exact h1
  have _ := hb
  have _ := hG
  have _ := hy
  clear hd h1 hx hy ha hb hG
  go_enter Tryz.func29, Tryz.ntmps29
  go_wp2_with fail
  refine HCA.out.mono ?_
  rintro _ w1 ⟨rfl, hB⟩
  go_wp2_with fail
  go_ret2
  exact bagP_nil _ hB

set_option maxRecDepth 100000 in
set_option maxHeartbeats 16000000 in
theorem pSum_b {n m : Nat} {u v s t : Nat → ByteArray} (ha : Shrt n u v) (hb : Shrt m s t) (h1 : bagE isCan n u v = 0) (h2 : bagE isCan m s t ≠ 0) (W : World) (xa ya : Option Addr) (ca cb : Nat) (hG : Ground W) (hx : Rf W xa n u v) (hy : Rf W ya m s t) :
    Calls Tryz.prog 29 #[.slice xa n (n + ca), .slice ya m (m + cb)] W (BagP [] 1 W) := by
  have HCA := Lib.hid (pBag W xa n (n + ca) u v hx ha.fit)
  have HCB := Lib.hid (fun w1 (hB : Below W.heap.size W w1) => pBag w1 ya m (m + cb) s t (hy.belowAt hB (Nat.le_refl _)) hb.fit)
  rw [h1] at HCA
  obtain ⟨d, hd⟩ : ∃ d, bagE isCan m s t = d := ⟨_, rfl⟩
  rw [hd] at HCB
  have hdb : (d != 0) = true := by rw [bne_iff_ne, ← hd]; exact h2
  have _ := hG
  clear hd h1 h2 hx hy ha hb hG
  go_enter Tryz.func29, Tryz.ntmps29
  go_wp2_with fail
  refine HCA.out.mono ?_
  rintro _ w1 ⟨rfl, hB⟩
  go_wp2_with fail
  refine (HCB.out _ hB).mono ?_
  rintro _ w2 ⟨rfl, hB2⟩
  go_wp2_with fail
  go_ret2
  exact bagP_nil _ (hB.trans (hB2.mono hB.size))

set_option maxRecDepth 100000 in
set_option maxHeartbeats 16000000 in
theorem pSum_ok {n m : Nat} {u v s t : Nat → ByteArray} (ha : Shrt n u v) (hb : Shrt m s t) (h1 : bagE isCan n u v = 0) (h2 : bagE isCan m s t = 0) (b : Bag) (c : Int) (hbc : (b, c) = if 16 < (addB (rowB n u v) (rowB m s t)).length then ([], 4) else (addB (rowB n u v) (rowB m s t), 0)) (W : World) (xa ya : Option Addr) (ca cb : Nat) (hG : Ground W) (hx : Rf W xa n u v) (hy : Rf W ya m s t) :
    Calls Tryz.prog 29 #[.slice xa n (n + ca), .slice ya m (m + cb)] W (BagP b c W) := by
  have HCA := Lib.hid (pBag W xa n (n + ca) u v hx ha.fit)
  have HCB := Lib.hid (fun w1 (hB : Below W.heap.size W w1) => pBag w1 ya m (m + cb) s t (hy.belowAt hB (Nat.le_refl _)) hb.fit)
  rw [h1] at HCA
  rw [h2] at HCB
  have oa := okB_of' h1
  have ob := okB_of' h2
  have HAD := Lib.hid (fun w1 (hB : Below W.heap.size W w1) => pAdd xa ya n m (n + ca) (m + cb) u v s t w1 (hG.below hB) (hx.belowAt hB (Nat.le_refl _)) (hy.belowAt hB (Nat.le_refl _)) (by omega) (by omega) (by have := ha.max; omega) (by have := hb.max; omega) (fun k hk => by have := ha.num k hk; omega) (fun k hk => by have := hb.num k hk; omega) oa.1 oa.2 ob.1 (b, c) hbc)
  unfold BagP at HAD ⊢
  clear h1 h2 hx hy ha hb hG oa ob hbc
  go_enter Tryz.func29, Tryz.ntmps29
  go_wp2_with fail
  refine HCA.out.mono ?_
  rintro _ w1 ⟨rfl, hB⟩
  go_wp2_with fail
  refine (HCB.out _ hB).mono ?_
  rintro _ w2 ⟨rfl, hB2⟩
  replace hB := hB.trans (hB2.mono hB.size)
  clear hB2
  go_wp2_with fail
  refine (HAD.out _ hB).mono ?_
  rintro _ w3 ⟨za, cz, rfl, hr, hB3⟩
  go_wp2_with fail
  go_ret2
  exact ⟨za, cz, rfl, hr, hB.trans (hB3.mono hB.size)⟩

theorem p_sum {n m : Nat} {u v s t : Nat → ByteArray} (ha : Shrt n u v) (hb : Shrt m s t) : On2 29 n u v m s t (BagP (sumO n u v m s t).1 (sumO n u v m s t).2) := fun W xa ya ca cb hG hx hy => by
  by_cases h1 : bagE isCan n u v = 0
  · by_cases h2 : bagE isCan m s t = 0
    · refine pSum_ok ha hb h1 h2 _ _ ?_ W xa ya ca cb hG hx hy
      unfold sumO
      rw [if_pos ⟨h1, h2⟩]
    · rw [show sumO n u v m s t = ([], 1) by unfold sumO; rw [if_neg (fun h => h2 h.2)]]
      exact pSum_b ha hb h1 h2 W xa ya ca cb hG hx hy
  · rw [show sumO n u v m s t = ([], 1) by unfold sumO; rw [if_neg (fun h => h1 h.1)]]
    exact pSum_a ha hb h1 W xa ya ca cb hG hx hy
set_option maxRecDepth 100000 in
set_option maxHeartbeats 16000000 in
theorem pPut_bag {n : Nat} {u v : Nat → ByteArray} {c z : ByteArray} (ha : Shrt n u v) (hc : c.size ≤ 8) (hz : z.size ≤ 13) (h1 : bagE isCan n u v ≠ 0) (W : World) (xa : Option Addr) (ca : Nat) (hG : Ground W) (hx : Rf W xa n u v) :
    Calls Tryz.prog 20 #[.slice xa n (n + ca), .agg #[.string c, .string z]] W (BagP [] 1 W) := by
  obtain ⟨W0, hW0⟩ : ∃ V, V = W.alloc (.cells #[.string c, .string z] 35) := ⟨_, rfl⟩
  have hP0 : PairAt W0 W.heap.size 35 c z := by rw [hW0]; exact PairAt.made _ _ _ _
  have hb0 : Below W.heap.size W W0 := by rw [hW0]; exact (Below.refl _ _).alloc (Nat.le_refl _) _
  obtain ⟨B0, hB0⟩ : ∃ x, W.heap.size = x := ⟨_, rfl⟩
  rw [hB0] at hP0
  have HP := Lib.hid hP0
  have HB := Lib.hid hb0
  have HCA := Lib.hid (pBag W0 xa n (n + ca) u v (hx.belowAt hb0 (Nat.le_refl _)) ha.fit)
  obtain ⟨d, hd⟩ : ∃ d, bagE isCan n u v = d := ⟨_, rfl⟩
  rw [hd] at HCA
  have hdb : (d != 0) = true := by rw [bne_iff_ne, ← hd]; exact h1
  have _ := hG
  have _ := hc
  have _ := hz
  clear hd h1 hx ha hG hP0 hb0 hc hz
  go_enter Tryz.func20, Tryz.ntmps20
  go_upto_region 1 with fail
  rw [← hW0]
  try rw [hB0]
  clear hW0
  go_wp2_with fail
  refine HCA.out.mono ?_
  rintro _ w1 ⟨rfl, hB⟩
  have hP1 := HP.out.below hB
  have hb := HB.out.trans (hB.mono HB.out.size)
  clear hB
  obtain ⟨k0, k1, _, _⟩ := hP1.cells
  go_wp2_with fail
  go_ret2
  exact bagP_nil _ (by first | exact hb | exact hB0 ▸ hb)

set_option maxRecDepth 100000 in
set_option maxHeartbeats 16000000 in
theorem pPut_mon {n : Nat} {u v : Nat → ByteArray} {c z : ByteArray} (ha : Shrt n u v) (hc : c.size ≤ 8) (hz : z.size ≤ 13) (h1 : bagE isCan n u v = 0) (h2 : monC c z ≠ 0) (W : World) (xa : Option Addr) (ca : Nat) (hG : Ground W) (hx : Rf W xa n u v) :
    Calls Tryz.prog 20 #[.slice xa n (n + ca), .agg #[.string c, .string z]] W (BagP [] (monC c z) W) := by
  obtain ⟨W0, hW0⟩ : ∃ V, V = W.alloc (.cells #[.string c, .string z] 35) := ⟨_, rfl⟩
  have hP0 : PairAt W0 W.heap.size 35 c z := by rw [hW0]; exact PairAt.made _ _ _ _
  have hb0 : Below W.heap.size W W0 := by rw [hW0]; exact (Below.refl _ _).alloc (Nat.le_refl _) _
  obtain ⟨B0, hB0⟩ : ∃ x, W.heap.size = x := ⟨_, rfl⟩
  rw [hB0] at hP0
  have HP := Lib.hid hP0
  have HB := Lib.hid hb0
  have HCA := Lib.hid (pBag W0 xa n (n + ca) u v (hx.belowAt hb0 (Nat.le_refl _)) ha.fit)
  rw [h1] at HCA
  have HMO := Lib.hid (fun V => pMon c z V (by omega) (by omega))
  obtain ⟨d, hd⟩ : ∃ d, monC c z = d := ⟨_, rfl⟩
  rw [hd] at HMO ⊢
  have hdb : (d != 0) = true := by rw [bne_iff_ne, ← hd]; exact h2
  have _ := hG
  clear hd h1 h2 hx ha hG hP0 hb0 hc hz
  go_enter Tryz.func20, Tryz.ntmps20
  go_upto_region 1 with fail
  rw [← hW0]
  try rw [hB0]
  clear hW0
  go_wp2_with fail
  refine HCA.out.mono ?_
  rintro _ w1 ⟨rfl, hB⟩
  have hP1 := HP.out.below hB
  have hb := HB.out.trans (hB.mono HB.out.size)
  clear hB
  obtain ⟨k0, k1, _, _⟩ := hP1.cells
  go_wp2_with fail
  refine (HMO.out _).mono ?_
  rintro _ w2 ⟨rfl, hB2⟩
  have hP2 := hP1.below hB2
  replace hb := hb.trans (hB2.mono hb.size)
  clear hB2 k0 k1
  obtain ⟨k0, k1, _, _⟩ := hP2.cells
  go_wp2_with fail
  go_ret2
  exact bagP_nil _ (by first | exact hb | exact hB0 ▸ hb)

set_option maxRecDepth 100000 in
set_option maxHeartbeats 16000000 in
theorem pPut_ok {n : Nat} {u v : Nat → ByteArray} {c z : ByteArray} (ha : Shrt n u v) (hc : c.size ≤ 8) (hz : z.size ≤ 13) (h1 : bagE isCan n u v = 0) (h2 : monC c z = 0) (b : Bag) (r : Int) (hbc : (b, r) = if 16 < (put (rowB n u v) c (vS z)).length then ([], 4) else (put (rowB n u v) c (vS z), 0)) (W : World) (xa : Option Addr) (ca : Nat) (hG : Ground W) (hx : Rf W xa n u v) :
    Calls Tryz.prog 20 #[.slice xa n (n + ca), .agg #[.string c, .string z]] W (BagP b r W) := by
  obtain ⟨W0, hW0⟩ : ∃ V, V = W.alloc (.cells #[.string c, .string z] 35) := ⟨_, rfl⟩
  have hP0 : PairAt W0 W.heap.size 35 c z := by rw [hW0]; exact PairAt.made _ _ _ _
  have hb0 : Below W.heap.size W W0 := by rw [hW0]; exact (Below.refl _ _).alloc (Nat.le_refl _) _
  obtain ⟨B0, hB0⟩ : ∃ x, W.heap.size = x := ⟨_, rfl⟩
  rw [hB0] at hP0
  have HP := Lib.hid hP0
  have HB := Lib.hid hb0
  have HCA := Lib.hid (pBag W0 xa n (n + ca) u v (hx.belowAt hb0 (Nat.le_refl _)) ha.fit)
  rw [h1] at HCA
  have HMO := Lib.hid (fun V => pMon c z V (by omega) (by omega))
  rw [h2] at HMO
  have oa := okB_of' h1
  have hfs : (fun i : Nat => Value.string (if i % 2 = 0 then c else z)) = fun i => Value.string (if i % 2 = 0 then (fun _ => c) (i / 2) else (fun _ => z) (i / 2)) := rfl
  have HAD := Lib.hid (fun V (hB : Below W.heap.size W V) => pAdd xa (some ⟨V.heap.size, 0, none⟩) n 1 (n + ca) 1 u v (fun _ => c) (fun _ => z) (V.alloc (.cells #[.string c, .string z] 35)) ((hG.below hB).below ((Below.refl _ _).alloc (Nat.le_refl _) _)) ((hx.belowAt hB (Nat.le_refl _)).alloc _)
    ⟨fun _ => ⟨V.heap.size, 0, rfl, by rw [World.size_alloc]; omega, fun i hi => by
      rw [cell_of_row _ _ _ _ _ _ (heap_alloc_new _ _)]
      rcases (show i = 0 ∨ i = 1 by omega) with rfl | rfl <;> rfl⟩⟩ (by omega) (by omega) (by have := ha.max; omega) (by omega) (fun k hk => by have := ha.num k hk; omega) (fun k hk => by omega) oa.1 oa.2 (List.pairwise_singleton _ _) (b, r) hbc)
  unfold BagP at HAD ⊢
  clear h1 h2 hx ha hG hP0 hb0 hc hz oa hbc hfs
  go_enter Tryz.func20, Tryz.ntmps20
  go_upto_region 1 with fail
  rw [← hW0]
  try rw [hB0]
  clear hW0
  go_wp2_with fail
  refine HCA.out.mono ?_
  rintro _ w1 ⟨rfl, hB⟩
  have hP1 := HP.out.below hB
  have hb := HB.out.trans (hB.mono HB.out.size)
  clear hB
  obtain ⟨k0, k1, _, _⟩ := hP1.cells
  go_wp2_with fail
  refine (HMO.out _).mono ?_
  rintro _ w2 ⟨rfl, hB2⟩
  have hP2 := hP1.below hB2
  replace hb := hb.trans (hB2.mono hb.size)
  clear hB2 k0 k1
  obtain ⟨k0, k1, _, _⟩ := hP2.cells
  go_wp2_with fail
  refine (HAD.out _ (by first | exact hb | exact hB0 ▸ hb)).mono ?_
  rintro _ w3 ⟨za, cz, rfl, hr, hB3⟩
  go_wp2_with fail
  go_ret2
  have hbb := (hb.alloc hb.size (.cells #[.string c, .string z] 35)).trans (hB3.mono (by rw [World.size_alloc]; have := hb.size; omega))
  exact ⟨za, cz, rfl, hr, by first | exact hbb | exact hB0 ▸ hbb⟩

theorem p_put {n : Nat} {u v : Nat → ByteArray} {c z : ByteArray} (ha : Shrt n u v) (hc : c.size ≤ 8) (hz : z.size ≤ 13) : OnM 20 n u v c z (BagP (putO n u v c z).1 (putO n u v c z).2) := fun W xa ca hG hx => by
  by_cases h1 : bagE isCan n u v = 0
  · by_cases h2 : monC c z = 0
    · have h3 : codeS c = true := by
        cases h : codeS c with
        | true => rfl
        | false => unfold monC at h2; rw [if_pos h] at h2; exact absurd h2 (by decide)
      have h4 : isCan z = true := by
        unfold monC chk at h2
        rw [if_neg (by rw [h3]; decide)] at h2
        cases h : isCan z with
        | true => rfl
        | false => rw [h] at h2; exact absurd h2 (by decide)
      refine pPut_ok ha hc hz h1 h2 _ _ ?_ W xa ca hG hx
      unfold putO
      rw [if_pos h1, if_pos h3, if_pos h4]
    · have e : putO n u v c z = ([], monC c z) := by
        unfold putO monC chk
        rw [if_pos h1]
        unfold monC chk at h2
        cases h3 : codeS c with
        | false => rfl
        | true =>
          rw [h3] at h2
          cases h4 : isCan z with
          | false => rfl
          | true => rw [h4] at h2; exact absurd rfl h2
      rw [e]
      exact pPut_mon ha hc hz h1 h2 W xa ca hG hx
  · rw [show putO n u v c z = ([], 1) by unfold putO; rw [if_neg h1]]
    exact pPut_bag ha hc hz h1 W xa ca hG hx

/-! ### Neg -/
theorem made_two (z : Value) (n : Nat) : madeCells #[z, z] (n * 2) = ((List.range (n * 2)).map fun _ => z).toArray := by
  apply Array.ext
  · simp [madeCells]
  · intro i h1 h2
    simp only [madeCells, Array.getElem_map, Array.getElem_range, List.getElem_toArray, List.getElem_map]
    rcases (show i % 2 = 0 ∨ i % 2 = 1 by omega) with e | e <;> simp [e]
theorem RowC.made2 (w : World) (t : TypeId) (z : Value) (n : Nat) : RowC (w.alloc (.cells (madeCells #[z, z] (n * 2)) t)) w.heap.size t (n * 2) fun _ => z := by
  unfold RowC
  rw [heap_alloc_new, made_two]
theorem run_makeMon (n : Nat) (hn : n ≤ 1099511627776) (w : World) :
    (Instr.makeSlice 32 (.int .i64 (n : Int)) (.int .i64 (n : Int))).run Tryz.prog w = .ok (.slice (some ⟨w.heap.size, 0, none⟩) n n) (w.alloc (.cells (madeCells #[.string ⟨#[]⟩, .string ⟨#[]⟩] (n * 2)) 35)) := by
  obtain ⟨i0, hi, hz0, hz1, hz2⟩ := info_parts info_Money
  have hr := run_make (P := Tryz.prog) w 32 35 i0 (.agg #[.string ⟨#[]⟩, .string ⟨#[]⟩]) Tryz.underlying32 hi hz0 .i64 .i64 n n (by omega) (by omega) (by rw [hz2]; omega) (by omega)
  simp only [Int.toNat_natCast] at hr
  rw [hr, hz1]
  simp [Value.cells]
/-- the cells of the opposites when k have been made -/
def negC (u v : Nat → ByteArray) (k i : Nat) : Value := .string (if i / 2 < k then (if i % 2 = 0 then u (i / 2) else cS (-vS (v (i / 2)))) else ⟨#[]⟩)
theorem negC_next (u v : Nat → ByteArray) (k i : Nat) : negC u v (k + 1) i = upd (upd (negC u v k) (k * 2) (.string (u k))) (k * 2 + 1) (.string (cS (-vS (v k)))) i := by
  unfold negC upd
  by_cases h1 : i = k * 2 + 1
  · subst h1
    rw [if_pos (by omega), if_neg (by omega), if_pos rfl, show (k * 2 + 1) / 2 = k by omega]
  · rw [if_neg h1]
    dsimp only
    by_cases h2 : i = k * 2
    · subst h2
      rw [if_pos (by omega), if_pos (by omega), if_pos rfl, show k * 2 / 2 = k by omega]
    · rw [if_neg h2]
      by_cases h3 : i / 2 < k
      · rw [if_pos (by omega), if_pos h3]
      · rw [if_neg (by omega), if_neg h3]
set_option maxRecDepth 100000 in
set_option maxHeartbeats 16000000 in
theorem pNeg_bad {n : Nat} {u v : Nat → ByteArray} (ha : Shrt n u v) (h1 : bagE isCan n u v ≠ 0) (W : World) (xa : Option Addr) (ca : Nat) (hx : Rf W xa n u v) :
    Calls Tryz.prog 22 #[.slice xa n ca] W (BagP [] 1 W) := by
  have HCA := Lib.hid (pBag W xa n ca u v hx ha.fit)
  obtain ⟨d, hd⟩ : ∃ d, bagE isCan n u v = d := ⟨_, rfl⟩
  rw [hd] at HCA
  have hdb : (d != 0) = true := by rw [bne_iff_ne, ← hd]; exact h1
  clear hd h1 hx ha
  go_enter Tryz.func22, Tryz.ntmps22
  go_wp2_with fail
  refine HCA.out.mono ?_
  rintro _ w1 ⟨rfl, hB⟩
  go_wp2_with fail
  go_ret2
  exact bagP_nil _ hB
set_option maxRecDepth 100000 in
set_option maxHeartbeats 16000000 in
theorem pNeg_ok {n : Nat} {u v : Nat → ByteArray} (ha : Shrt n u v) (h1 : bagE isCan n u v = 0) (W : World) (xa : Option Addr) (ca : Nat) (hx : Rf W xa n u v) :
    Calls Tryz.prog 22 #[.slice xa n ca] W (BagP (negB (rowB n u v)) 0 W) := by
  have HCA := Lib.hid (pBag W xa n ca u v hx ha.fit)
  rw [h1] at HCA
  have hn := ha.max
  have hmake := run_makeMon n (by omega)
  have HX := Lib.hid hx
  have HA := Lib.hid ha
  clear h1 hx ha
  go_enter Tryz.func22, Tryz.ntmps22
  go_wp2_with fail
  refine HCA.out.mono ?_
  rintro _ w1 ⟨rfl, hB⟩
  obtain ⟨R, hR⟩ : ∃ x, w1.heap.size = x := ⟨_, rfl⟩
  obtain ⟨W2, hW2⟩ : ∃ V, V = w1.alloc (.cells (madeCells #[.string ⟨#[]⟩, .string ⟨#[]⟩] (n * 2)) 35) := ⟨_, rfl⟩
  have HR0 := Lib.hid (show RowC W2 R 35 (n * 2) (negC u v 0) by rw [hW2, ← hR]; exact RowC.made2 _ _ _ _)
  have HB0 := Lib.hid (show Below W.heap.size W W2 by rw [hW2]; exact hB.alloc hB.size _)
  have HRW := Lib.hid (show W.heap.size ≤ R by rw [← hR]; exact hB.size)
  clear hB
  go_upto_region 4 with fail
  rw [← hW2]
  try rw [hR]
  clear hW2 hR
  go_wp2_with fail
  go_loopw [15] (fun iv wr => ∃ k : Nat, k ≤ n ∧ iv = .int .i64 (k : Int) ∧ Hid (RowC wr R 35 (n * 2) (negC u v k)) ∧ Hid (Below W.heap.size W wr)) (fun iv _ => n - (intOf iv).toNat)
  case atStart => exact ⟨0, Nat.zero_le _, rfl, HR0, HB0⟩
  case round =>
    clear HR0 HB0
    obtain ⟨k, hk, rfl, hrow, HB⟩ := hrel
    by_cases hlt : k < n
    · have hw1 : IntKind.i64.wrap ((k : Int) + 1) = (k : Int) + 1 := IntWalk.i64_in _ (by omega)
      obtain ⟨b, o, rfl, hb, y1, y2⟩ := Rf.at HX.out hlt
      have z1 := (HB.out.cell (p := ⟨b, o + k * 2, none⟩) hb).trans y1
      have z2 := (HB.out.cell (p := ⟨b, o + k * 2 + 1, none⟩) hb).trans y2
      have hsv := HA.out.num k hlt
      have HN := Lib.hid (fun V => neg_v (a := v k) (z := -vS (v k)) V (by omega) rfl rfl)
      have HNX := Lib.hid (negC_next u v k)
      obtain ⟨uk, huk⟩ : ∃ y, u k = y := ⟨_, rfl⟩
      obtain ⟨nk, hnk⟩ : ∃ y, cS (-vS (v k)) = y := ⟨_, rfl⟩
      rw [huk, hnk] at HNX
      rw [hnk] at HN
      obtain ⟨vk, hvk⟩ : ∃ y, v k = y := ⟨_, rfl⟩
      rw [hvk] at HN
      rw [huk] at z1
      rw [hvk] at z2
      obtain ⟨W1, hW1⟩ : ∃ V, V = wr.alloc (.cells #[.string uk, .string vk] 35) := ⟨_, rfl⟩
      have h2 := two_new wr 35 (.string uk) (.string vk)
      rw [← hW1] at h2
      obtain ⟨E1, hE1⟩ : ∃ s, wr.heap.size = s := ⟨_, rfl⟩
      have HE := Lib.hid (show TwoAt W1 E1 35 (.string uk) (.string vk) by rw [← hE1]; exact h2.1)
      have HB1 := Lib.hid (HB.out.trans (h2.2.mono HB.out.size))
      have hrow1 := hrow.out.below h2.2 hrow.out.lt
      have hER : E1 ≠ R := by have := hrow.out.lt; omega
      have hlt' : (k : Int) < (n : Int) := by omega
      have hnb : (n : Int) * 2 ≤ 1000 := by omega
      have c1 : W1.cell? ⟨R, k * 2, none⟩ = some _ := hrow1.cell (i := k * 2) (by omega)
      have c2 : W1.cell? ⟨R, k * 2 + 1, none⟩ = some _ := hrow1.cell (i := k * 2 + 1) (by omega)
      have f1 : W1.frozen? ⟨R, k * 2, none⟩ = false := hrow1.frozen _
      have f2 : W1.frozen? ⟨R, k * 2 + 1, none⟩ = false := hrow1.frozen _
      have HRW1 := Lib.hid hrow1
      have HTT := Lib.hid (show TwoAt ((W1.setCell ⟨R, k * 2, none⟩ (.string uk)).setCell ⟨R, k * 2 + 1, none⟩ (.string nk)).drew E1 35 (.string uk) (.string vk) from (Below.heap_setCell _ _ _ E1 hER).trans ((Below.heap_setCell _ _ _ E1 hER).trans HE.out))
      clear h2 y1 y2 HB hsv huk hnk hvk hrow hrow1
      go_upto_region 7 with fail
      rw [← hW1]
      try rw [hE1]
      clear hW1
      obtain ⟨k0, k1, _, _⟩ := HE.out.cells
      go_wp2_with fail
      refine wp_region_held_drew (S := fun w' => w'.cell? ⟨E1, 0, none⟩ = some (.string uk) ∧ w'.cell? ⟨E1, 1, none⟩ = some (.string vk)) (by kernel_rfl) (by (try dsimp only); go_keep) (fun hHeld => ?_)
      refine wpAnyH_take (i := 0) (oi := { dst := some 20, op := Op.move (Operand.tmp 4), type := 32, pos := "money.go:83", after := #[], guard := none }) (v := ?_) rfl (by kernel_rfl) (by kernel_rfl) (by kernel_rfl) (fun _ _ _ h => h) (Or.inl ⟨by rfl, ?_⟩) (by assumption) ?_
      rotate_left
      focus ((intro w hSw; (try dsimp only at hSw); go_simp); (try with_reducible rfl))
      try simp only [Act.put, List.setIfInBounds_toArray, List.set_cons_zero, List.set_cons_succ]
      refine wpAnyH_take (i := 1) (oi := { dst := some 21, op := Op.move (Operand.tmp 5), type := 3, pos := "money.go:83", after := #[], guard := none }) (v := ?_) rfl (by kernel_rfl) (by kernel_rfl) (by kernel_rfl) (fun _ _ _ h => h) (Or.inl ⟨by rfl, ?_⟩) (by assumption) ?_
      rotate_left
      focus ((intro w hSw; (try dsimp only at hSw); go_simp); (try with_reducible rfl))
      try simp only [Act.put, List.setIfInBounds_toArray, List.set_cons_zero, List.set_cons_succ]
      refine wpAnyH_take (i := 2) (oi := { dst := some 22, op := Op.fieldAddr 35 (Operand.tmp 6) 0, type := 0, pos := "money.go:83", after := #[], guard := none }) (v := ?_) rfl (by kernel_rfl) (by kernel_rfl) (by kernel_rfl) (fun _ _ _ h => h) (Or.inl ⟨by rfl, ?_⟩) (by assumption) ?_
      rotate_left
      focus ((intro w hSw; (try dsimp only at hSw); go_simp); (try with_reducible rfl))
      try simp only [Act.put, List.setIfInBounds_toArray, List.set_cons_zero, List.set_cons_succ]
      refine wpAnyH_take (i := 3) (oi := { dst := some 23, op := Op.load 9 (Operand.tmp 22), type := 9, pos := "money.go:83", after := #[{ on := 2, ground := Ground.data }], guard := none }) (v := ?_) rfl (by kernel_rfl) (by kernel_rfl) (by kernel_rfl) (fun _ _ _ h => h) (Or.inl ⟨by rfl, ?_⟩) (by assumption) ?_
      rotate_left
      focus ((intro w hSw; (try dsimp only at hSw); go_simp); (try with_reducible rfl))
      try simp only [Act.put, List.setIfInBounds_toArray, List.set_cons_zero, List.set_cons_succ]
      refine wpAnyH_take (i := 4) (oi := { dst := some 24, op := Op.fieldAddr 35 (Operand.tmp 6) 1, type := 0, pos := "money.go:83", after := #[], guard := none }) (v := ?_) rfl (by kernel_rfl) (by kernel_rfl) (by kernel_rfl) (fun _ _ _ h => h) (Or.inl ⟨by rfl, ?_⟩) (by assumption) ?_
      rotate_left
      focus ((intro w hSw; (try dsimp only at hSw); go_simp); (try with_reducible rfl))
      try simp only [Act.put, List.setIfInBounds_toArray, List.set_cons_zero, List.set_cons_succ]
      refine wpAnyH_take (i := 5) (oi := { dst := some 25, op := Op.load 33 (Operand.tmp 24), type := 33, pos := "money.go:83", after := #[{ on := 4, ground := Ground.data }], guard := none }) (v := ?_) rfl (by kernel_rfl) (by kernel_rfl) (by kernel_rfl) (fun _ _ _ h => h) (Or.inl ⟨by rfl, ?_⟩) (by assumption) ?_
      rotate_left
      focus ((intro w hSw; (try dsimp only at hSw); go_simp); (try with_reducible rfl))
      try simp only [Act.put, List.setIfInBounds_toArray, List.set_cons_zero, List.set_cons_succ]
      refine wpAnyH_ready (rs := [6]) (by kernel_rfl) (by simp) ?_
      refine AllReadyH.cons (o := { dst := some 26, op := Op.call { callee := Callee.value (Operand.func 57), args := #[Operand.tmp 25], argTypes := #[33] }, type := 33, pos := "money.go:83", after := #[{ on := 5, ground := Ground.data }], guard := none }) rfl (fun K hK => ?_) AllReadyH.nil
      clear hHeld
      go_simp
      refine (HN.out _).mono ?_
      rintro _ _ ⟨rfl, rfl⟩
      go_wp2_with fail
      refine hK.out _ _ (by (try dsimp only); go_keep) (fun hHeld => ?_)
      clear hK K
      try simp only [Act.put, List.setIfInBounds_toArray, List.set_cons_zero, List.set_cons_succ]
      refine wpAnyH_take (i := 7) (oi := { dst := some 27, op := Op.build 35 #[(0, Operand.tmp 23), (1, Operand.tmp 26)], type := 35, pos := "money.go:83", after := #[{ on := 3, ground := Ground.data }, { on := 6, ground := Ground.data }], guard := none }) (v := ?_) rfl (by kernel_rfl) (by kernel_rfl) (by kernel_rfl) (fun _ _ _ h => h) (Or.inl ⟨by rfl, ?_⟩) (by assumption) ?_
      rotate_left
      focus ((intro w hSw; (try dsimp only at hSw); go_simp); (try with_reducible rfl))
      try simp only [Act.put, List.setIfInBounds_toArray, List.set_cons_zero, List.set_cons_succ]
      refine wpAnyH_take (i := 8) (oi := { dst := some 28, op := Op.indexAddr 32 (Operand.tmp 20) (Operand.tmp 21), type := 0, pos := "money.go:83", after := #[{ on := 0, ground := Ground.data }, { on := 1, ground := Ground.data }, { on := 0, ground := Ground.phase }, { on := 1, ground := Ground.phase }, { on := 2, ground := Ground.phase }, { on := 3, ground := Ground.phase }, { on := 4, ground := Ground.phase }, { on := 5, ground := Ground.phase }, { on := 6, ground := Ground.phase }, { on := 7, ground := Ground.phase }], guard := none }) (v := ?_) rfl (by kernel_rfl) (by kernel_rfl) (by kernel_rfl) (fun _ _ _ h => h) (Or.inl ⟨by rfl, ?_⟩) (by assumption) ?_
      rotate_left
      focus ((intro w hSw; (try dsimp only at hSw); go_simp); (try with_reducible rfl))
      try simp only [Act.put, List.setIfInBounds_toArray, List.set_cons_zero, List.set_cons_succ]
      refine wpAnyH_ready (rs := [9]) (by kernel_rfl) (by simp) ?_
      refine AllReadyH.cons (o := { dst := none, op := Op.store 35 (Operand.tmp 28) (Operand.tmp 27), type := 0, pos := "money.go:83", after := #[{ on := 8, ground := Ground.data }, { on := 7, ground := Ground.data }, { on := 6, ground := Ground.chain }, { on := 0, ground := Ground.phase }, { on := 1, ground := Ground.phase }, { on := 2, ground := Ground.phase }, { on := 3, ground := Ground.phase }, { on := 4, ground := Ground.phase }, { on := 5, ground := Ground.phase }, { on := 6, ground := Ground.phase }, { on := 7, ground := Ground.phase }], guard := none }) rfl (fun K hK => ?_) AllReadyH.nil
      clear hHeld
      go_simp
      refine hK.out _ _ (by (try dsimp only); exact ⟨HTT.out.cells.1, HTT.out.cells.2.1⟩) (fun hHeld => ?_)
      clear hK K
      try simp only [Act.put, List.setIfInBounds_toArray, List.set_cons_zero, List.set_cons_succ]
      refine wpAnyH_done (by kernel_rfl) ?_ _
      clear hHeld
      have hrn := ((HRW1.out.set (k * 2) (.string uk)).set (k * 2 + 1) (.string nk)).congr fun i _ => HNX.out i
      have HRN := Lib.hid (show RowC ((W1.setCell ⟨R, k * 2, none⟩ (.string uk)).setCell ⟨R, k * 2 + 1, none⟩ (.string nk)).drew R 35 (n * 2) (negC u v (k + 1)) from hrn)
      have HBN := Lib.hid (below_drew ((HB1.out.setCell (p := ⟨R, k * 2, none⟩) HRW.out (.string uk)).setCell (p := ⟨R, k * 2 + 1, none⟩) HRW.out (.string nk)))
      clear c1 c2 f1 f2 k0 k1 hrn HRW1 HB1 HE HTT
      go_wp2_with fail
      go_roundw
      case rel => exact ⟨k + 1, by omega, by simp, HRN, HBN⟩
      case measure => simp [intOf]; omega
    · obtain rfl : k = n := by omega
      go_wp2_with fail
      go_ret2
      have hl : (negB (rowB k u v)).length = k := by unfold negB; rw [List.length_map]; exact bagL_len _ _ _
      refine ⟨some ⟨R, 0, none⟩, 0, by rw [hl]; rfl, ?_, HB.out⟩
      unfold RB
      rw [hl]
      refine Rc.congr hrow.out.rc fun i hi => ?_
      have h2 : i / 2 < k := by omega
      unfold negC
      rw [if_pos h2]
      show Value.string _ = Value.string _
      dsimp only
      have hm : negB (rowB k u v) = bagL k u fun i => -vS (v i) := by unfold negB rowB bagL; rw [List.map_map]; rfl
      rw [hm, atU_row h2, atX_row h2]
theorem p_neg {n : Nat} {u v : Nat → ByteArray} (ha : Shrt n u v) : On1 22 n u v (BagP (negO n u v).1 (negO n u v).2) := fun W xa ca _ hx => by
  by_cases h1 : bagE isCan n u v = 0
  · rw [show negO n u v = (negB (rowB n u v), 0) from if_pos h1]
    exact pNeg_ok ha h1 W xa ca hx
  · rw [show negO n u v = ([], 1) from if_neg h1]
    exact pNeg_bad ha h1 W xa ca hx
theorem p_chk {n : Nat} {u v : Nat → ByteArray} (ha : Shrt n u v) : On1 24 n u v (ValP (.int .i64 (bagE isCan n u v))) := fun W xa cap _ hx => pBag W xa n cap u v hx ha.fit
theorem p_amt {n : Nat} {u v : Nat → ByteArray} (c : ByteArray) (ha : Shrt n u v) : OnC 26 n u v c (ValP (.string (amtS n u v c))) := fun W xa cap _ hx => pAmount W xa n cap u v c hx (by have := ha.max; omega)

end Go.Proofs.YtahnkmkmoalbhaaGreatDoor
