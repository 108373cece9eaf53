/- A region that draws, in a round of a range over a function; an append that has room. -/
import Derived.Test.YthhihdihkddakaaGreatDoorAD
import Derived.Deep.RegionHeld3
namespace Go.Proofs.YthhihdihkddakaaGreatDoor
open Go.RowKit Go.Shelf

theorem uponIn_of_upon {P : Program} {o : Oper} {a : Act} {next next' : Act → World → Prop} {Q : Exit → Act → World → Prop} (l n : Nat) (hn : ∀ a w, next a w → next' a w) :
    ∀ r, o.upon P a next Q r → o.uponIn (Fence.wide.inRound l) n P a next' Q r := by
  intro r h
  cases r with
  | ok x w' =>
    cases x with
    | value v => exact hn _ _ h
    | skip => exact hn _ _ h
    | «defer» d => exact hn _ _ h
    | enter f args =>
      refine ⟨fun e => (by cases e), CallsIn.inRound l (callsIn_wide.2 (Calls.mono (R := fun
        | .returned v, w'' => next (a.put o.dst v) w''
        | .panicked chain, w'' => Q (.panic chain) a w''
        | .outgrown, _ => LetsOut Q) h fun e w'' hk => ?_))⟩
      cases e with
      | returned v => exact hn _ _ hk
      | panicked chain => exact hk
      | outgrown => exact hk
    | row row args =>
      refine ⟨fun e => (by cases e), fun c cs _ => ?_⟩
      obtain ⟨v, w'', hk, hs⟩ := (show Rows P row args w' fun v w'' => next (a.put o.dst v) w'' from h) c cs
      exact ⟨v, w'', hn _ _ hk, by rw [fenced_inRound]; exact stepsIn_wide.2 hs⟩
    | _ => exact h.elim
  | halt e w' =>
    cases e with
    | panic v => exact h
    | _ => exact h.elim

theorem wpOpsIn_of_wpOps {P : Program} {ops : Array Oper} {Q : Exit → Act → World → Prop} (l n : Nat) (hnd : ∀ (i : Nat) (o : Oper) c, ops[i]? = some o → o.op ≠ Op.defer c) (hQ : ¬ LetsOut Q) :
    ∀ is a w, wpOps P ops Q is a w → wpOpsIn (Fence.wide.inRound l) n P ops Q is a w
  | [], _, _, h => h
  | i :: rest, a, w, h => by
    unfold wpOps at h
    unfold wpOpsIn
    cases ho : ops[i]? with
    | none =>
      simp only [ho] at h
      exact wpOpsIn_of_wpOps l n hnd hQ rest a w h
    | some o =>
      simp only [ho] at h ⊢
      by_cases hw : Region.wanted o (yielded ops a.tmps) = true
      · rw [if_pos hw] at h ⊢
        rcases h with h | ⟨_, h⟩
        · refine ⟨fun _ _ => trivial, ?_⟩
          rw [Oper.semAt_eq _ _ _ (fun c => hnd i o c ho)]
          exact uponIn_of_upon l n (fun a w => wpOpsIn_of_wpOps l n hnd hQ rest a w) _ h
        · exact absurd h hQ
      · rw [if_neg hw] at h ⊢
        exact ⟨fun _ _ => trivial, wpOpsIn_of_wpOps l n hnd hQ rest _ w h⟩

/-- as wp_region_held_drew, in a round -/
theorem wpIn_region_heldR {P : Program} {ops : Array Oper} {Q : Exit → Act → World → Prop} {S : World → Prop} {id l n : Nat} {a : Act} {w : World} (hnd : ∀ (i : Nat) (o : Oper) c, ops[i]? = some o → o.op ≠ Op.defer c) (hQ : ¬ LetsOut Q) (hm : P.follows .mixedOrders = true) (hS : S w.drew)
    (h : S w.drew → wpAnyH P .any ops Q S ops.size (Array.replicate ops.size false) a w.drew) : (Code.region id ops true).wpIn (Fence.wide.inRound l) n P Q a w :=
  wpIn_region_draw fun t => by
    simp only [Region.schedule, hm, Bool.true_or, if_true]
    exact wpOpsIn_of_wpOps l n hnd hQ _ _ _ (wpAny_sound ops.size t _ a _ (wpAny_of_held _ _ _ _ (h hS)))

/-- no operation of a region that is written out is a defer statement -/
def plainOps (ops : Array Oper) : Bool := ops.toList.all fun o => match o.op with | .defer _ => false | _ => true
theorem plain_ops {ops : Array Oper} (h : plainOps ops = true) : ∀ (i : Nat) (o : Oper) c, ops[i]? = some o → o.op ≠ Op.defer c := by
  intro i o c ho e
  unfold plainOps at h
  rw [List.all_eq_true] at h
  have hm : o ∈ ops.toList := by
    rw [← Array.getElem?_toList] at ho
    exact List.mem_of_getElem? ho
  have := h o hm
  rw [e] at this
  cases this

/-! ### An append that has room -/
theorem grown_setRow (w : World) (g : Nat) (cs : Array Value) : w.grownBy (w.setRow g cs) (some g) :=
  ⟨rfl, rfl, rfl, Nat.le_of_eq (setRow_size w g cs).symm, fun k _ hne => setRow_other w g k cs (fun e => hne (by rw [e]))⟩
theorem app_room {w : World} {R n k : Nat} {c : Nat → Value} (h : RowC w R 22 n c) (hk : k < n) (g : Nat) (x : ByteArray) (hg : w.cell? ⟨g, 0, none⟩ = some (.string x)) (ty : TypeId) :
    ∃ w', (Builtin.append_ #[23, 23] ty #[.slice (some ⟨R, 0, none⟩) k n, .slice (some ⟨g, 0, none⟩) 1 1]).run Tryz.prog w = .ok (.slice (some ⟨R, 0, none⟩) (k + 1) n) w' ∧
      RowC w' R 22 n (upd c k (.string x)) ∧ w.grownBy w' (some R) := by
  obtain ⟨i0, hi, hz0, hz1, hz2⟩ := info_parts info_Int
  have hr := run_append_room (P := Tryz.prog) w 23 ty 22 i0 Tryz.underlying23 hi R k n _ h ⟨g, 0, none⟩ 1 1 [.string x] (by rw [hz1]; rfl)
    (fun j u hj => by
      match j, hj with
      | 0, hj => simp at hj; subst hj; simpa [Addr.add] using hg
      | j + 1, hj => simp at hj)
    (fun u hu => by simp at hu; subst hu; rfl) (by omega) (by rw [hz1]; simp; omega)
  refine ⟨_, hr, ?_, grown_setRow _ _ _⟩
  rw [hz1]
  have hs := h.set k (.string x)
  unfold RowC at hs ⊢
  rw [setRow_heap w R _ _ _ _ h]
  rw [heap_setCell_same w R k _ _ (.string x) h] at hs
  rw [← hs, List.setIfInBounds_toArray, List.set_eq_take_append_cons_drop, if_pos (by simp; exact hk)]
  simp

end Go.Proofs.YthhihdihkddakaaGreatDoor

/- allocate.Running: the walk. -/
namespace Go.Proofs.YthhihdihkddakaaGreatDoor
open Go.RowKit Go.Shelf

attribute [local go_sem] Oper.semAt_some

theorem run_makeRoom (n : Nat) (hn : n ≤ 1099511627776) (w : World) :
    (Instr.makeSlice 23 (.int .i64 0) (.int .i64 (n : Int))).run Tryz.prog w = .ok (.slice (some ⟨w.heap.size, 0, none⟩) 0 n) (w.alloc (.cells (madeCells #[.string ⟨#[]⟩] n) 22)) := by
  obtain ⟨i0, hi, hz0, hz1, hz2⟩ := info_parts info_Int
  have hr := run_make (P := Tryz.prog) w 23 22 i0 (.string ⟨#[]⟩) Tryz.underlying23 hi hz0 .i64 .i64 0 n (by omega) (by omega) (by rw [hz2]; omega) (by omega)
  simp only [Int.toNat_natCast, Int.toNat_zero] at hr
  rw [hr, hz1]
  simp [Value.cells]

/-- the variables of Running between two rounds -/
structure RunSt (w : World) (T0 S0 R P0 Q0 n : Nat) (t u : ByteArray) (k : Nat) (c : Nat → ByteArray) (q : ByteArray) (W : World) : Prop where
  bt : Boxed W T0 22 (.string t)
  bs : Boxed W S0 22 (.string u)
  row : RowC W R 22 n fun i => .string (c i)
  bp : Boxed W P0 23 (.slice (some ⟨R, 0, none⟩) k n)
  bq : Boxed W Q0 22 (.string q)
  below : Below w.heap.size w W
variable {w : World} {T0 S0 R P0 Q0 n : Nat} {t u : ByteArray} {k : Nat} {c : Nat → ByteArray} {q : ByteArray} {W : World}
theorem RunSt.next {W' : World} (h : RunSt w T0 S0 R P0 Q0 n t u k c q W) (hb : Below W.heap.size W W') : RunSt w T0 S0 R P0 Q0 n t u k c q W' :=
  ⟨(hb.block _ h.bt.lt).trans h.bt, (hb.block _ h.bs.lt).trans h.bs, h.row.below hb h.row.lt, (hb.block _ h.bp.lt).trans h.bp, (hb.block _ h.bq.lt).trans h.bq, h.below.trans (hb.mono h.below.size)⟩
theorem RunSt.drewN (h : RunSt w T0 S0 R P0 Q0 n t u k c q W) (m : Nat) : RunSt w T0 S0 R P0 Q0 n t u k c q (W.drewN m) := ⟨h.bt, h.bs, h.row, h.bp, h.bq, below_drewN h.below m⟩
theorem RunSt.grown {W' : World} {row : Option Nat} (h : RunSt w T0 S0 R P0 Q0 n t u k c q W) (hg : W.grownBy W' row) (hr : ∀ r, row = some r → w.heap.size ≤ r ∧ r ≠ T0 ∧ r ≠ S0 ∧ r ≠ R ∧ r ≠ P0 ∧ r ≠ Q0) : RunSt w T0 S0 R P0 Q0 n t u k c q W' :=
  ⟨h.bt.kept hg (fun e => (hr _ e.symm).2.1 rfl), h.bs.kept hg (fun e => (hr _ e.symm).2.2.1 rfl), h.row.of_block (hg.block _ h.row.lt (fun e => (hr _ e.symm).2.2.2.1 rfl)), h.bp.kept hg (fun e => (hr _ e.symm).2.2.2.2.1 rfl), h.bq.kept hg (fun e => (hr _ e.symm).2.2.2.2.2 rfl), h.below.grown hg h.below.size (fun r e => (hr r e).1)⟩
/-- the row has one part more -/
theorem RunSt.add {W' : World} (h : RunSt w T0 S0 R P0 Q0 n t u k c q W) {c' : Nat → ByteArray} (hr : RowC W' R 22 n fun i => .string (c' i)) (hg : W.grownBy W' (some R)) (hw : w.heap.size ≤ R) (h1 : T0 ≠ R) (h2 : S0 ≠ R) (h3 : P0 ≠ R) (h4 : Q0 ≠ R) : RunSt w T0 S0 R P0 Q0 n t u k c' q W' :=
  ⟨h.bt.kept hg (fun e => h1 (by cases e; rfl)), h.bs.kept hg (fun e => h2 (by cases e; rfl)), hr, h.bp.kept hg (fun e => h3 (by cases e; rfl)), h.bq.kept hg (fun e => h4 (by cases e; rfl)), h.below.grown hg h.below.size (fun r e => by cases e; exact hw)⟩
theorem RunSt.setP (h : RunSt w T0 S0 R P0 Q0 n t u k c q W) (hw : w.heap.size ≤ P0) (h1 : T0 ≠ P0) (h2 : S0 ≠ P0) (h3 : R ≠ P0) (h4 : Q0 ≠ P0) (k' : Nat) : RunSt w T0 S0 R P0 Q0 n t u k' c q (W.setCell ⟨P0, 0, none⟩ (.slice (some ⟨R, 0, none⟩) k' n)) :=
  ⟨h.bt.other h1 _, h.bs.other h2 _, h.row.setOther (a := ⟨P0, 0, none⟩) h3 _, h.bp.set _, h.bq.other h4 _, h.below.setCell (p := ⟨P0, 0, none⟩) hw _⟩
theorem RunSt.setQ (h : RunSt w T0 S0 R P0 Q0 n t u k c q W) (hw : w.heap.size ≤ Q0) (h1 : T0 ≠ Q0) (h2 : S0 ≠ Q0) (h3 : R ≠ Q0) (h4 : P0 ≠ Q0) (q' : ByteArray) : RunSt w T0 S0 R P0 Q0 n t u k c q' (W.setCell ⟨Q0, 0, none⟩ (.string q')) :=
  ⟨h.bt.other h1 _, h.bs.other h2 _, h.row.setOther (a := ⟨Q0, 0, none⟩) h3 _, h.bp.other h4 _, h.bq.set _, h.below.setCell (p := ⟨Q0, 0, none⟩) hw _⟩
theorem RunSt.congr (h : RunSt w T0 S0 R P0 Q0 n t u k c q W) {c' : Nat → ByteArray} (e : ∀ i, i < n → c' i = c i) : RunSt w T0 S0 R P0 Q0 n t u k c' q W :=
  ⟨h.bt, h.bs, h.row.congr fun i hi => by rw [e i hi], h.bp, h.bq, h.below⟩

/-- the part of the first k weights -/
def flo (T : Int) (W : Nat) (wt : Nat → Nat) (k : Nat) : Int := Int.fdiv (T * (Num.sumN wt k : Nat)) (W : Nat)
theorem runP_eq (T : Int) (W : Nat) (wt : Nat → Nat) (k : Nat) : Num.runP T W wt k = flo T W wt (k + 1) - flo T W wt k := rfl
theorem DivAt.mulT {A W n d : Nat} {wt : Nat → Nat} {T : Int} (h : DivAt A W n wt d) (hT : T.natAbs = A) {k : Nat} (hk : k ≤ n) : Cap (d + d) (T * (Num.sumN wt k : Nat)) := by
  refine Cap.mul (k := d) (l := d) ?_ ?_
  · unfold Cap; rw [hT]; exact h.capA
  · have h1 := sumN_le (f := wt) hk
    have h2 := h.sum
    have h3 := h.capW
    unfold Cap
    omega
theorem DivAt.flo {A W n d : Nat} {wt : Nat → Nat} {T : Int} (h : DivAt A W n wt d) (hT : T.natAbs = A) {k : Nat} (hk : k ≤ n) : Cap (d + d + 1) (flo T W wt k) :=
  Cap.fdiv' (h.mulT hT hk) (by have := h.w0; omega)
theorem cap_len {k : Nat} {z : Int} (h : Cap k z) (hk : k ≤ 1000000) : (cS z).size ≤ 4294967295 := by have := cS_size h; omega
/-- the first k parts -/
def runs (T : Int) (W : Nat) (wt : Nat → Nat) (k i : Nat) : ByteArray := if i < k then cS (Num.runP T W wt i) else ⟨#[]⟩
theorem runs_next (T : Int) (W : Nat) (wt : Nat → Nat) (k i : Nat) : runs T W wt (k + 1) i = upd (runs T W wt k) k (cS (Num.runP T W wt k)) i := by
  unfold runs upd
  by_cases e : i = k
  · subst e; rw [if_pos (by omega), if_pos rfl]
  · rw [if_neg e]
    dsimp only
    by_cases g : i < k
    · rw [if_pos g, if_pos (by omega)]
    · rw [if_neg g, if_neg (by omega)]

set_option maxRecDepth 100000 in
set_option maxHeartbeats 4000000 in
theorem aRun_bad (w : World) (hG : Ground w) (t : ByteArray) (xa : Option Addr) (n cap : Nat) (s : Nat → ByteArray) (hr : Rs w xa n s) (hf : FitW n t s) (h : weighE t n s ≠ 0) :
    Calls Tryz.prog 18 #[.string t, .slice xa n cap] w fun e w' => e = .returned (nilE (weighE t n s)) ∧ Below w.heap.size w w' := by
  obtain ⟨W0, hW0⟩ : ∃ W0, W0 = w.alloc (.cells #[.string t] 22) := ⟨_, rfl⟩
  have hB0 : Below w.heap.size w W0 := by rw [hW0]; exact (Below.refl _ _).alloc (Nat.le_refl _) _
  have hbt : Boxed W0 w.heap.size 22 (.string t) := by rw [hW0]; exact Boxed.new _ _ _
  have HW := Lib.hid (aWeigh W0 (hG.below hB0) t xa n cap s (hr.belowAt hB0 (Nat.le_refl _)) hf)
  rw [if_neg h] at HW
  obtain ⟨c, hc⟩ : ∃ c, weighE t n s = c := ⟨_, rfl⟩
  rw [hc] at HW ⊢
  have hb : (c != 0) = true := by rw [bne_iff_ne, ← hc]; exact h
  have HB := Lib.hid hB0
  have HBT := Lib.hid hbt
  have HW0 := Lib.hid hW0
  clear hc h hr hf hG hB0 hbt hW0
  unfold nilE
  go_enter Tryz.func18, Tryz.ntmps18
  go_upto_region 1 with fail
  rw [← HW0.out]
  have hct := HBT.out.cell
  go_wp2_with fail
  refine HW.out.mono ?_
  rintro _ w1 ⟨rfl, hB⟩
  go_wp2_with fail
  go_ret2
  exact ⟨rfl, (HB.out.trans (hB.mono HB.out.size)).alloc (HB.out.trans (hB.mono HB.out.size)).size _⟩

set_option maxRecDepth 1000000 in
set_option maxHeartbeats 16000000 in
theorem aRun_in (f : Nat) (hf3 : 3 ≤ f) (w : World) (hG : Ground w) (t : ByteArray) (xa : Option Addr) (n cap : Nat) (s : Nat → ByteArray) (hr : Rs w xa n s) (hf : FitW n t s) (h : weighE t n s = 0) :
    CallsIn Fence.wide f Tryz.prog 18 #[.string t, .slice xa n cap] w fun e w' =>
      ∃ R, e = .returned (.tuple #[.slice (some ⟨R, 0, none⟩) n n, .int .i64 0]) ∧ (RowC w' R 22 n fun i => .string (cS (Num.runP (vS t) (Num.sumN (wtN s) n) (wtN s) i))) ∧ Below w.heap.size w w' := by
  have h1 : 1 ≤ f := by omega
  have hmix : Tryz.prog.follows .mixedOrders = true := by kernel_rfl
  have hgd := weighE_zero h
  have hfit := hf.fit hgd.few
  have hd := hgd.data hf
  obtain ⟨W0, hW0⟩ : ∃ W0, W0 = w.alloc (.cells #[.string t] 22) := ⟨_, rfl⟩
  obtain ⟨T0, hT0⟩ : ∃ T0, T0 = w.heap.size := ⟨_, rfl⟩
  have hB0 : Below w.heap.size w W0 := by rw [hW0]; exact (Below.refl _ _).alloc (Nat.le_refl _) _
  have hbt : Boxed W0 T0 22 (.string t) := by rw [hW0, hT0]; exact Boxed.new _ _ _
  have HW := Lib.hid (aWeigh W0 (hG.below hB0) t xa n cap s (hr.belowAt hB0 (Nat.le_refl _)) hf)
  rw [if_pos h, h, hd.sum] at HW
  obtain ⟨d, hdiv⟩ := hd.div
  obtain ⟨T, hT⟩ : ∃ T, vS t = T := ⟨_, rfl⟩
  obtain ⟨wt, hwt⟩ : ∃ wt, wtN s = wt := ⟨_, rfl⟩
  have hss : ∀ k, k ≤ n → sumS s k = (Num.sumN wt k : Nat) := fun k hk => by rw [← hwt]; exact sumS_wt fun i hi => hgd.nn i (by omega)
  rw [hT, hwt] at hdiv
  rw [hwt] at HW
  rw [hT, hwt]
  obtain ⟨W, hWW⟩ : ∃ W, Num.sumN wt n = W := ⟨_, rfl⟩
  rw [hWW] at hdiv HW ⊢
  have hn := hdiv.few
  have hroom := run_makeRoom n (by omega)
  have HDV := Lib.hid hdiv
  have HTT := Lib.hid hT
  have HSS := Lib.hid hss
  have HB0 := Lib.hid hB0
  have HBT := Lib.hid hbt
  have HGW := Lib.hid hG
  have HRS := Lib.hid hr
  have HFT := Lib.hid hfit
  have HT0 := Lib.hid hT0
  have HTS := Lib.hid (show t.size ≤ 4294967295 by have := hf.t1; omega)
  clear hgd hf h hd hT hwt hss hB0 hbt hG hr hfit hWW hdiv
  refine callsIn_of_wp_marks Tryz.func18 rfl trivial ?_ rfl
  simp only [Tryz.ntmps18, List.size_toArray, List.length_cons, List.length_nil, Nat.reduceAdd, Nat.reduceSub, Array.replicate_succ, Array.replicate_zero, List.push_toArray, List.append_toArray, List.nil_append, List.cons_append]
  clear hT0
  gi_wp2_with fail
  rw [← hW0, ← HT0.out]
  clear hW0
  refine ⟨trivial, (callsIn_wide.2 HW.out).mono ?_⟩
  rintro e w1 ⟨rfl, hB1⟩
  have hB1w := HB0.out.trans (hB1.mono HB0.out.size)
  obtain ⟨S0, hS0⟩ : ∃ S0, S0 = w1.heap.size := ⟨_, rfl⟩
  obtain ⟨R, hR⟩ : ∃ R, R = S0 + 1 := ⟨_, rfl⟩
  obtain ⟨P0, hP0⟩ : ∃ P0, P0 = R + 1 := ⟨_, rfl⟩
  obtain ⟨Q0, hQ0⟩ : ∃ Q0, Q0 = P0 + 1 := ⟨_, rfl⟩
  obtain ⟨u, hu⟩ : ∃ u, cS (W : Nat) = u := ⟨_, rfl⟩
  rw [hu]
  obtain ⟨W4, hW4⟩ : ∃ W4, W4 = (((w1.alloc (.cells #[.string u] 22)).alloc (.cells (madeCells #[.string ⟨#[]⟩] n) 22)).alloc (.cells #[.slice (some ⟨w1.heap.size + 1, 0, none⟩) 0 n] 23)).alloc (.cells #[.string ⟨#[]⟩] 22) := ⟨_, rfl⟩
  have hS4 : RunSt w T0 S0 R P0 Q0 n t u 0 (runs T W wt 0) ⟨#[]⟩ W4 := by
    rw [hW4, hQ0, hP0, hR, hS0]
    refine RunSt.congr (c := fun _ => ⟨#[]⟩) ⟨?_, ?_, ?_, ?_, ?_, ?_⟩ (fun i _ => if_neg (by omega))
    · have h0 : Boxed w1 T0 22 (.string t) := (hB1.block _ HBT.out.lt).trans HBT.out
      exact (((h0.alloc _).alloc _).alloc _).alloc _
    · exact (((Boxed.new w1 22 (.string u)).alloc _).alloc _).alloc _
    · have := RowC.made (w1.alloc (.cells #[.string u] 22)) 22 (.string ⟨#[]⟩) n
      rw [World.size_alloc] at this
      exact (this.alloc _).alloc _
    · have := Boxed.new ((w1.alloc (.cells #[.string u] 22)).alloc (.cells (madeCells #[.string ⟨#[]⟩] n) 22)) 23 (.slice (some ⟨w1.heap.size + 1, 0, none⟩) 0 n)
      rw [World.size_alloc, World.size_alloc] at this
      exact this.alloc _
    · have := Boxed.new (((w1.alloc (.cells #[.string u] 22)).alloc (.cells (madeCells #[.string ⟨#[]⟩] n) 22)).alloc (.cells #[.slice (some ⟨w1.heap.size + 1, 0, none⟩) 0 n] 23)) 22 (.string ⟨#[]⟩)
      rw [World.size_alloc, World.size_alloc, World.size_alloc] at this
      exact this
    · have := hB1w.size
      exact (((hB1w.alloc this _).alloc (by rw [World.size_alloc]; omega) _).alloc (by rw [World.size_alloc, World.size_alloc]; omega) _).alloc (by rw [World.size_alloc, World.size_alloc, World.size_alloc]; omega) _
  have hTl : T0 < w1.heap.size := Nat.lt_of_lt_of_le HBT.out.lt hB1.size
  have hwT : w.heap.size ≤ T0 := by have := HT0.out; omega
  have hwS : w.heap.size ≤ S0 := by rw [hS0]; exact hB1w.size
  have HS4 := Lib.hid hS4
  have HW4 := Lib.hid hW4
  have HEQ := Lib.hid (show S0 = w1.heap.size ∧ R = S0 + 1 ∧ P0 = R + 1 ∧ Q0 = P0 + 1 from ⟨hS0, hR, hP0, hQ0⟩)
  have HU := Lib.hid hu
  clear hS4 hW4 hQ0 hP0 hR hS0 hu hB1 hB1w HW HB0 HBT HT0
  gi_wp2_with fail
  obtain ⟨hS0, hR, hP0, hQ0⟩ := HEQ.out
  rw [← HW4.out, ← hS0, ← hR, ← hP0, ← hQ0]
  have hd1 : T0 ≠ R := by omega
  have hd2 : S0 ≠ R := by omega
  have hd3 : P0 ≠ R := by omega
  have hd4 : Q0 ≠ R := by omega
  have hd5 : T0 ≠ P0 := by omega
  have hd6 : S0 ≠ P0 := by omega
  have hd7 : R ≠ P0 := by omega
  have hd8 : Q0 ≠ P0 := by omega
  have hd9 : T0 ≠ Q0 := by omega
  have hda : S0 ≠ Q0 := by omega
  have hdb : R ≠ Q0 := by omega
  have hdc : P0 ≠ Q0 := by omega
  have hwR : w.heap.size ≤ R := by omega
  have hwP : w.heap.size ≤ P0 := by omega
  have hwQ : w.heap.size ≤ Q0 := by omega
  clear hS0 hR hP0 hQ0 HEQ HW4 hTl
  refine ⟨trivial, (begin_in (f - 1) xa n cap _).mono ?_⟩
  rintro e w5 ⟨rfl, rfl⟩
  have hS5 := HS4.out.next ((Below.refl _ W4).alloc (Nat.le_refl _) (.cells #[.slice xa n cap] 23))
  have hbl := Boxed.new W4 23 (.slice xa n cap)
  have hTl : T0 < W4.heap.size := HS4.out.bt.lt
  have hSl : S0 < W4.heap.size := HS4.out.bs.lt
  have hRl : R < W4.heap.size := HS4.out.row.lt
  have hPl : P0 < W4.heap.size := HS4.out.bp.lt
  have hQl : Q0 < W4.heap.size := HS4.out.bq.lt
  have hwl := HS4.out.below.size
  have hsz : W4.heap.size ≤ (W4.alloc (.cells #[.slice xa n cap] 23)).heap.size := by simp
  clear HS4
  revert hS5 hbl hTl hSl hRl hPl hQl hwl hsz
  generalize W4.alloc (.cells #[.slice xa n cap] 23) = W5
  generalize W4.heap.size = bl
  intro hS5 hbl hTl hSl hRl hPl hQl hwl hsz
  gi_wp2_with fail
  refine wpIn_begin hf3 (bl := bl) rfl rfl n 1000 s HFT.out HGW.out HRS.out hbl
    (fun k W' => RunSt w T0 S0 R P0 Q0 n t u k (runs T W wt k) (cS (flo T W wt k)) W')
    ?hI (fun k A h => h.below) (by rw [show flo T W wt 0 = 0 by unfold flo; simp [Num.sumN], cS_zero]; exact hS5)
    (fun q => { tmps := #[.string t, .slice xa n cap, .pointer (some ⟨T0, 0, none⟩), undef, .slice none 0 0, .int .i64 0, .pointer (some ⟨S0, 0, none⟩), .int .i64 0, .pointer (some ⟨P0, 0, none⟩), .pointer (some ⟨Q0, 0, none⟩), q, undef, undef, undef,
        .tuple #[.string u, .int .i64 0], .string t, .slice xa n cap, .tuple #[.string u, .int .i64 0], .string u, .int .i64 0, .int .i64 0, .bool false, undef, .slice xa n cap, .int .i64 n, .slice (some ⟨R, 0, none⟩) 0 n, .slice xa n cap,
        .func (.func 120) #[] #[.pointer (some ⟨bl, 0, none⟩)], q, undef, undef, undef, undef, undef, undef, undef, undef, undef, undef, undef, undef, undef, undef, undef, undef, undef], defers := [] }) ?assign ?body ?done
  case hI =>
    rintro k A A' row h hg hr
    exact h.grown hg (fun r e => by have := hr r e; omega)
  case assign =>
    intro l q W' K hK
    gi_wp2
    exact hK
  case body =>
    rintro l k W' hk h
    have HS := Lib.hid h
    have hk1 : k ≤ n := by omega
    have hk2 : k + 1 ≤ n := hk
    have HM := Lib.hid (fun W' hW => mul_v (a := t) (b := cS (sumS s (k + 1))) (z := T * (Num.sumN wt (k + 1) : Nat)) W' hW HTS.out (HFT.out.sum hk2) HTT.out (vS_cS _) (by rw [HSS.out (k + 1) hk2]))
    have HD := Lib.hid (fun W' hW => div_v (a := cS (T * (Num.sumN wt (k + 1) : Nat))) (b := u) (q := flo T W wt (k + 1)) (r := Int.fmod (T * (Num.sumN wt (k + 1) : Nat)) (W : Nat)) W' hW (cap_len (HDV.out.mulT rfl hk2) (by have := HDV.out.c2; omega)) (by rw [← HU.out]; exact HDV.out.sizeW) (vS_cS _) (by rw [← HU.out]; exact vS_cS _) (by have := HDV.out.w0; omega) rfl rfl)
    have HSU := Lib.hid (fun W' hW => sub_v (a := cS (flo T W wt (k + 1))) (b := cS (flo T W wt k)) (z := Num.runP T W wt k) W' hW (cap_len (HDV.out.flo rfl hk2) (by have := HDV.out.c2; omega)) (cap_len (HDV.out.flo rfl hk1) (by have := HDV.out.c2; omega)) (vS_cS _) (vS_cS _) (runP_eq T W wt k).symm)
    unfold StrPost at HM HSU
    obtain ⟨ts, hts⟩ : ∃ ts, cS (sumS s (k + 1)) = ts := ⟨_, rfl⟩
    obtain ⟨sm, hsm⟩ : ∃ x, cS (T * (Num.sumN wt (k + 1) : Nat)) = x := ⟨_, rfl⟩
    obtain ⟨sf, hsf⟩ : ∃ x, cS (flo T W wt (k + 1)) = x := ⟨_, rfl⟩
    obtain ⟨sr, hsr⟩ : ∃ x, cS (Int.fmod (T * (Num.sumN wt (k + 1) : Nat)) (W : Nat)) = x := ⟨_, rfl⟩
    obtain ⟨sq, hsq⟩ : ∃ x, cS (flo T W wt k) = x := ⟨_, rfl⟩
    obtain ⟨sp, hsp⟩ : ∃ x, cS (Num.runP T W wt k) = x := ⟨_, rfl⟩
    have HSF := Lib.hid hsf
    have HSP := Lib.hid hsp
    rw [hts, hsm] at HM
    rw [hsm, hsf, hsr] at HD
    rw [hsf, hsq, hsp] at HSU
    rw [hsq] at HS
    rw [hts]
    have c1 := HS.out.bt.cell
    have c2 := HS.out.bs.cell
    clear h hts hsm hsf hsr hsq hsp hS5 hbl
    gi_wp2_with fail
    refine wpIn_region_heldR (S := fun w' => w'.cell? ⟨T0, 0, none⟩ = some (.string t) ∧ w'.cell? ⟨S0, 0, none⟩ = some (.string u)) (plain_ops (by kernel_rfl)) (by rintro ⟨_, _, hh⟩; exact Exit.noConfusion (And.left hh)) (by kernel_rfl) (by (try dsimp only); go_keep) (fun hHeld => ?_)
    refine wpAnyH_take (i := 0) (oi := { dst := some 30, op := Op.load 22 (Operand.tmp 2), type := 22, pos := "allocate.go:103", after := #[], guard := none }) (v := ?_) rfl (by kernel_rfl) (by kernel_rfl) (by kernel_rfl) (fun _ _ _ h => h) (Or.inl ⟨by rfl, ?_⟩) (by assumption) ?_
    rotate_left
    focus ((intro w hSw; (try dsimp only at hSw); go_simp); (try with_reducible rfl))
    try simp only [Act.put, List.setIfInBounds_toArray, List.set_cons_zero, List.set_cons_succ]
    refine wpAnyH_take (i := 1) (oi := { dst := some 31, op := Op.move (Operand.tmp 10), type := 22, pos := "allocate.go:103", after := #[], guard := none }) (v := ?_) rfl (by kernel_rfl) (by kernel_rfl) (by kernel_rfl) (fun _ _ _ h => h) (Or.inl ⟨by rfl, ?_⟩) (by assumption) ?_
    rotate_left
    focus ((intro w hSw; (try dsimp only at hSw); go_simp); (try with_reducible rfl))
    try simp only [Act.put, List.setIfInBounds_toArray, List.set_cons_zero, List.set_cons_succ]
    refine wpAnyH_take (i := 3) (oi := { dst := some 33, op := Op.load 22 (Operand.tmp 6), type := 22, pos := "allocate.go:103", after := #[], guard := none }) (v := ?_) rfl (by kernel_rfl) (by kernel_rfl) (by kernel_rfl) (fun _ _ _ h => h) (Or.inl ⟨by rfl, ?_⟩) (by assumption) ?_
    rotate_left
    focus ((intro w hSw; (try dsimp only at hSw); go_simp); (try with_reducible rfl))
    try simp only [Act.put, List.setIfInBounds_toArray, List.set_cons_zero, List.set_cons_succ]
    refine wpAnyH_ready (rs := [2]) (by kernel_rfl) (by simp) ?_
    refine AllReadyH.cons (o := { dst := some 32, op := Op.call { callee := Callee.value (Operand.func 36), args := #[Operand.tmp 30, Operand.tmp 31], argTypes := #[22, 22] }, type := 22, pos := "allocate.go:103", after := #[{ on := 0, ground := Ground.data }, { on := 1, ground := Ground.data }], guard := none }) rfl (fun K hK => ?_) AllReadyH.nil
    clear hHeld
    go_simp
    refine (HM.out _ (HGW.out.below (HS.out.drewN 1).below)).mono ?_
    rintro _ WX ⟨rfl, hB1⟩
    have HSX := Lib.hid ((HS.out.drewN 1).next hB1)
    have HBX := Lib.hid hB1
    have cX1 := HSX.out.bt.cell
    have cX2 := HSX.out.bs.cell
    clear hB1
    go_wp2_with fail
    refine hK.out _ _ (by (try dsimp only); go_keep) (fun hHeld => ?_)
    clear hK K
    try simp only [Act.put, List.setIfInBounds_toArray, List.set_cons_zero, List.set_cons_succ]
    refine wpAnyH_ready (rs := [4]) (by kernel_rfl) (by simp) ?_
    refine AllReadyH.cons (o := { dst := some 34, op := Op.call { callee := Callee.value (Operand.func 66), args := #[Operand.tmp 32, Operand.tmp 33], argTypes := #[22, 22] }, type := 40, pos := "allocate.go:103", after := #[{ on := 2, ground := Ground.data }, { on := 3, ground := Ground.data }, { on := 2, ground := Ground.chain }], guard := none }) rfl (fun K hK => ?_) AllReadyH.nil
    clear hHeld
    go_simp
    refine (HD.out _ (HGW.out.below HSX.out.below)).mono ?_
    rintro _ WY ⟨rfl, hB1⟩
    have HSY := Lib.hid (HSX.out.next hB1)
    have HBY := Lib.hid hB1
    have cY1 := HSY.out.bt.cell
    have cY2 := HSY.out.bs.cell
    clear hB1
    go_wp2_with fail
    refine hK.out _ _ (by (try dsimp only); go_keep) (fun hHeld => ?_)
    clear hK K
    try simp only [Act.put, List.setIfInBounds_toArray, List.set_cons_zero, List.set_cons_succ]
    refine wpAnyH_take (i := 5) (oi := { dst := some 29, op := Op.move (Operand.tmp 34), type := 40, pos := "allocate.go:103", after := #[{ on := 4, ground := Ground.data }], guard := none }) (v := ?_) rfl (by kernel_rfl) (by kernel_rfl) (by kernel_rfl) (fun _ _ _ h => h) (Or.inl ⟨by rfl, ?_⟩) (by assumption) ?_
    rotate_left
    focus ((intro w hSw; (try dsimp only at hSw); go_simp); (try with_reducible rfl))
    try simp only [Act.put, List.setIfInBounds_toArray, List.set_cons_zero, List.set_cons_succ]
    refine wpAnyH_take (i := 6) (oi := { dst := some 35, op := Op.extract (Operand.tmp 29) 0, type := 22, pos := "allocate.go:103", after := #[{ on := 5, ground := Ground.data }], guard := none }) (v := ?_) rfl (by kernel_rfl) (by kernel_rfl) (by kernel_rfl) (fun _ _ _ h => h) (Or.inl ⟨by rfl, ?_⟩) (by assumption) ?_
    rotate_left
    focus ((intro w hSw; (try dsimp only at hSw); go_simp); (try with_reducible rfl))
    try simp only [Act.put, List.setIfInBounds_toArray, List.set_cons_zero, List.set_cons_succ]
    refine wpAnyH_take (i := 7) (oi := { dst := some 36, op := Op.extract (Operand.tmp 29) 1, type := 22, pos := "allocate.go:103", after := #[{ on := 5, ground := Ground.data }, { on := 9, ground := Ground.gcOnly Departure.lateStores }], guard := none }) (v := ?_) rfl (by kernel_rfl) (by kernel_rfl) (by kernel_rfl) (fun _ _ _ h => h) (Or.inl ⟨by rfl, ?_⟩) (by assumption) ?_
    rotate_left
    focus ((intro w hSw; (try dsimp only at hSw); go_simp); (try with_reducible rfl))
    try simp only [Act.put, List.setIfInBounds_toArray, List.set_cons_zero, List.set_cons_succ]
    refine wpAnyH_take (i := 8) (oi := { dst := some 37, op := Op.extract (Operand.tmp 29) 2, type := 26, pos := "allocate.go:103", after := #[{ on := 5, ground := Ground.data }, { on := 10, ground := Ground.gcOnly Departure.lateStores }], guard := none }) (v := ?_) rfl (by kernel_rfl) (by kernel_rfl) (by kernel_rfl) (fun _ _ _ h => h) (Or.inl ⟨by rfl, ?_⟩) (by assumption) ?_
    rotate_left
    focus ((intro w hSw; (try dsimp only at hSw); go_simp); (try with_reducible rfl))
    try simp only [Act.put, List.setIfInBounds_toArray, List.set_cons_zero, List.set_cons_succ]
    refine wpAnyH_take (i := 9) (oi := { dst := some 11, op := Op.assign (Operand.tmp 35), type := 22, pos := "allocate.go:103", after := #[{ on := 6, ground := Ground.data }, { on := 4, ground := Ground.chain }, { on := 0, ground := Ground.phase }, { on := 1, ground := Ground.phase }, { on := 2, ground := Ground.phase }, { on := 3, ground := Ground.phase }, { on := 4, ground := Ground.phase }, { on := 5, ground := Ground.phase }, { on := 6, ground := Ground.phase }, { on := 7, ground := Ground.textOnly Departure.lateStores }, { on := 8, ground := Ground.textOnly Departure.lateStores }], guard := none }) (v := ?_) rfl (by kernel_rfl) (by kernel_rfl) (by kernel_rfl) (fun _ _ _ h => h) (Or.inl ⟨by rfl, ?_⟩) (by assumption) ?_
    rotate_left
    focus ((intro w hSw; (try dsimp only at hSw); go_simp); (try with_reducible rfl))
    try simp only [Act.put, List.setIfInBounds_toArray, List.set_cons_zero, List.set_cons_succ]
    refine wpAnyH_take (i := 10) (oi := { dst := some 12, op := Op.assign (Operand.tmp 36), type := 22, pos := "allocate.go:103", after := #[{ on := 7, ground := Ground.data }, { on := 9, ground := Ground.chain }, { on := 0, ground := Ground.phase }, { on := 1, ground := Ground.phase }, { on := 2, ground := Ground.phase }, { on := 3, ground := Ground.phase }, { on := 4, ground := Ground.phase }, { on := 5, ground := Ground.phase }, { on := 6, ground := Ground.phase }, { on := 7, ground := Ground.phase }, { on := 8, ground := Ground.textOnly Departure.lateStores }, { on := 9, ground := Ground.phase }], guard := none }) (v := ?_) rfl (by kernel_rfl) (by kernel_rfl) (by kernel_rfl) (fun _ _ _ h => h) (Or.inl ⟨by rfl, ?_⟩) (by assumption) ?_
    rotate_left
    focus ((intro w hSw; (try dsimp only at hSw); go_simp); (try with_reducible rfl))
    try simp only [Act.put, List.setIfInBounds_toArray, List.set_cons_zero, List.set_cons_succ]
    refine wpAnyH_take (i := 11) (oi := { dst := some 13, op := Op.assign (Operand.tmp 37), type := 26, pos := "allocate.go:103", after := #[{ on := 8, ground := Ground.data }, { on := 10, ground := Ground.chain }, { on := 0, ground := Ground.phase }, { on := 1, ground := Ground.phase }, { on := 2, ground := Ground.phase }, { on := 3, ground := Ground.phase }, { on := 4, ground := Ground.phase }, { on := 5, ground := Ground.phase }, { on := 6, ground := Ground.phase }, { on := 7, ground := Ground.phase }, { on := 8, ground := Ground.phase }, { on := 9, ground := Ground.phase }, { on := 10, ground := Ground.phase }], guard := none }) (v := ?_) rfl (by kernel_rfl) (by kernel_rfl) (by kernel_rfl) (fun _ _ _ h => h) (Or.inl ⟨by rfl, ?_⟩) (by assumption) ?_
    rotate_left
    focus ((intro w hSw; (try dsimp only at hSw); go_simp); (try with_reducible rfl))
    try simp only [Act.put, List.setIfInBounds_toArray, List.set_cons_zero, List.set_cons_succ]
    refine wpAnyH_done (by kernel_rfl) ?_ _
    clear hHeld
    have cY3 := HSY.out.bp.cell
    have cY4 := HSY.out.bq.cell
    clear c1 c2 cX1 cX2 cY1 cY2 HSX
    gi_wp2_with fail
    refine wpIn_region_heldR (S := fun _ => True) (plain_ops (by kernel_rfl)) (by rintro ⟨_, _, hh⟩; exact Exit.noConfusion (And.left hh)) (by kernel_rfl) (by exact True.intro) (fun hHeld => ?_)
    refine wpAnyH_take (i := 1) (oi := { dst := some 39, op := Op.move (Operand.tmp 11), type := 22, pos := "allocate.go:104", after := #[], guard := none }) (v := ?_) rfl (by kernel_rfl) (by kernel_rfl) (by kernel_rfl) (fun _ _ _ h => h) (Or.inl ⟨by rfl, ?_⟩) (by assumption) ?_
    rotate_left
    focus ((intro w hSw; (try dsimp only at hSw); go_simp); (try with_reducible rfl))
    try simp only [Act.put, List.setIfInBounds_toArray, List.set_cons_zero, List.set_cons_succ]
    refine wpAnyH_ready (rs := [0, 2]) (by kernel_rfl) (by simp) ?_
    refine AllReadyH.cons (o := { dst := some 38, op := Op.load 23 (Operand.tmp 8), type := 23, pos := "allocate.go:104", after := #[], guard := none }) rfl (fun K hK => ?_) (AllReadyH.cons (o := { dst := some 40, op := Op.load 22 (Operand.tmp 9), type := 22, pos := "allocate.go:104", after := #[], guard := none }) rfl (fun K hK => ?_) AllReadyH.nil)
    · clear hHeld
      go_simp
      refine hK.out _ _ (by exact True.intro) (fun hHeld => ?_)
      clear hK K
      try simp only [Act.put, List.setIfInBounds_toArray, List.set_cons_zero, List.set_cons_succ]
      refine wpAnyH_ready (rs := [2]) (by kernel_rfl) (by simp) ?_
      refine AllReadyH.cons (o := { dst := some 40, op := Op.load 22 (Operand.tmp 9), type := 22, pos := "allocate.go:104", after := #[], guard := none }) rfl (fun K hK => ?_) AllReadyH.nil
      clear hHeld
      go_simp
      refine hK.out _ _ (by exact True.intro) (fun hHeld => ?_)
      clear hK K
      try simp only [Act.put, List.setIfInBounds_toArray, List.set_cons_zero, List.set_cons_succ]
      refine wpAnyH_ready (rs := [3]) (by kernel_rfl) (by simp) ?_
      refine AllReadyH.cons (o := { dst := some 41, op := Op.call { callee := Callee.value (Operand.func 35), args := #[Operand.tmp 39, Operand.tmp 40], argTypes := #[22, 22] }, type := 22, pos := "allocate.go:104", after := #[{ on := 1, ground := Ground.data }, { on := 2, ground := Ground.data }], guard := none }) rfl (fun K hK => ?_) AllReadyH.nil
      clear hHeld
      go_simp
      refine (HSU.out _ (HGW.out.below (HSY.out.drewN 1).below)).mono ?_
      rintro _ WZ ⟨rfl, hB1⟩
      have HSZ := Lib.hid ((HSY.out.drewN 1).next hB1)
      have HBZ := Lib.hid hB1
      have cZ3 := HSZ.out.bp.cell
      clear hB1
      go_wp2_with fail
      refine hK.out _ _ (by exact True.intro) (fun hHeld => ?_)
      clear hK K
      try simp only [Act.put, List.setIfInBounds_toArray, List.set_cons_zero, List.set_cons_succ]
      refine wpAnyH_ready (rs := [4]) (by kernel_rfl) (by simp) ?_
      refine AllReadyH.cons (o := { dst := some 42, op := Op.buildSlice 23 1 #[(0, Operand.tmp 41)], type := 23, pos := "allocate.go:104", after := #[{ on := 3, ground := Ground.data }], guard := none }) rfl (fun K hK => ?_) AllReadyH.nil
      clear hHeld
      go_simp
      obtain ⟨WU, hWU⟩ : ∃ WU, WU = WZ.alloc (.cells #[.string sp] 22) := ⟨_, rfl⟩
      have HS2 := Lib.hid (show RunSt w T0 S0 R P0 Q0 n t u k (runs T W wt k) sq WU from by rw [hWU]; exact HSZ.out.next ((Below.refl _ _).alloc (Nat.le_refl _) _))
      have hU : WU.cell? ⟨WZ.heap.size, 0, none⟩ = some (.string sp) := by rw [hWU]; exact (Boxed.new WZ 22 (.string sp)).cell
      have HBU := Lib.hid (show Below WZ.heap.size WZ WU from by rw [hWU]; exact (Below.refl _ _).alloc (Nat.le_refl _) _)
      rw [← hWU]
      clear hWU
      have cU3 := HS2.out.row.cell hk
      have fU3 := HS2.out.row.frozen k
      have cU4 := HS2.out.bp.cell
      refine hK.out _ _ (by exact True.intro) (fun hHeld => ?_)
      clear hK K
      try simp only [Act.put, List.setIfInBounds_toArray, List.set_cons_zero, List.set_cons_succ]
      refine wpAnyH_ready (rs := [5]) (by kernel_rfl) (by simp) ?_
      refine AllReadyH.cons (o := { dst := some 43, op := Op.call { callee := Callee.builtin Builtin.append, args := #[Operand.tmp 38, Operand.tmp 42], argTypes := #[23, 23] }, type := 23, pos := "allocate.go:104", after := #[{ on := 0, ground := Ground.data }, { on := 4, ground := Ground.data }, { on := 3, ground := Ground.chain }], guard := none }) rfl (fun K hK => ?_) AllReadyH.nil
      clear hHeld
      go_simp
      have HS3 := Lib.hid ((HS2.out.add (c' := runs T W wt (k + 1)) ((HS2.out.row.set k (.string sp)).congr fun i _ => by rw [runs_next, HSP.out]; unfold upd; split <;> rfl) (grown_set (grown_refl WU (some R))) hwR hd1 hd2 hd3 hd4))
      have c3 := HS3.out.bp.cell
      have f3 := HS3.out.bp.frozen
      refine hK.out _ _ (by exact True.intro) (fun hHeld => ?_)
      clear hK K
      try simp only [Act.put, List.setIfInBounds_toArray, List.set_cons_zero, List.set_cons_succ]
      refine wpAnyH_ready (rs := [6]) (by kernel_rfl) (by simp) ?_
      refine AllReadyH.cons (o := { dst := none, op := Op.store 23 (Operand.tmp 8) (Operand.tmp 43), type := 0, pos := "allocate.go:104", after := #[{ on := 5, ground := Ground.data }, { on := 5, ground := Ground.chain }, { on := 0, ground := Ground.phase }, { on := 1, ground := Ground.phase }, { on := 2, ground := Ground.phase }, { on := 3, ground := Ground.phase }, { on := 4, ground := Ground.phase }, { on := 5, ground := Ground.phase }], guard := none }) rfl (fun K hK => ?_) AllReadyH.nil
      clear hHeld
      go_simp
      have HS4 := Lib.hid (HS3.out.setP hwP hd5 hd6 hd7 hd8 (k + 1))
      refine hK.out _ _ (by exact True.intro) (fun hHeld => ?_)
      clear hK K
      try simp only [Act.put, List.setIfInBounds_toArray, List.set_cons_zero, List.set_cons_succ]
      refine wpAnyH_done (by kernel_rfl) ?_ _
      clear hHeld
      have c4 := HS4.out.bq.cell
      have f4 := HS4.out.bq.frozen
      have HS5 := Lib.hid (HS4.out.setQ hwQ hd9 hda hdb hdc sf)
      clear cY3 cY4 cZ3 cU3 cU4 fU3 c3 f3 hU
      gi_wp2_with fail
      refine ⟨by rw [HSF.out]; exact HS5.out, fun j hj1 hj2 => ?_⟩
      have s1 : W'.heap.size ≤ WX.heap.size := HBX.out.size
      have s2 : WX.heap.size ≤ WY.heap.size := HBY.out.size
      have s3 : WY.heap.size ≤ WZ.heap.size := HBZ.out.size
      rw [Below.heap_setCell _ _ _ j (by simp only; omega), Below.heap_setCell _ _ _ j (by simp only; omega), Below.heap_setCell _ _ _ j (by simp only; omega)]
      exact (HBU.out.block j (by omega)).trans ((HBZ.out.block j (show j < WY.heap.size by omega)).trans ((HBY.out.block j (by omega)).trans (HBX.out.block j hj2)))
    · clear hHeld
      go_simp
      refine hK.out _ _ (by exact True.intro) (fun hHeld => ?_)
      clear hK K
      try simp only [Act.put, List.setIfInBounds_toArray, List.set_cons_zero, List.set_cons_succ]
      refine wpAnyH_ready (rs := [0, 3]) (by kernel_rfl) (by simp) ?_
      refine AllReadyH.cons (o := { dst := some 38, op := Op.load 23 (Operand.tmp 8), type := 23, pos := "allocate.go:104", after := #[], guard := none }) rfl (fun K hK => ?_) (AllReadyH.cons (o := { dst := some 41, op := Op.call { callee := Callee.value (Operand.func 35), args := #[Operand.tmp 39, Operand.tmp 40], argTypes := #[22, 22] }, type := 22, pos := "allocate.go:104", after := #[{ on := 1, ground := Ground.data }, { on := 2, ground := Ground.data }], guard := none }) rfl (fun K hK => ?_) AllReadyH.nil)
      · clear hHeld
        go_simp
        refine hK.out _ _ (by exact True.intro) (fun hHeld => ?_)
        clear hK K
        try simp only [Act.put, List.setIfInBounds_toArray, List.set_cons_zero, List.set_cons_succ]
        refine wpAnyH_ready (rs := [3]) (by kernel_rfl) (by simp) ?_
        refine AllReadyH.cons (o := { dst := some 41, op := Op.call { callee := Callee.value (Operand.func 35), args := #[Operand.tmp 39, Operand.tmp 40], argTypes := #[22, 22] }, type := 22, pos := "allocate.go:104", after := #[{ on := 1, ground := Ground.data }, { on := 2, ground := Ground.data }], guard := none }) rfl (fun K hK => ?_) AllReadyH.nil
        clear hHeld
        go_simp
        refine (HSU.out _ (HGW.out.below (HSY.out.drewN 1).below)).mono ?_
        rintro _ WZ ⟨rfl, hB1⟩
        have HSZ := Lib.hid ((HSY.out.drewN 1).next hB1)
        have HBZ := Lib.hid hB1
        have cZ3 := HSZ.out.bp.cell
        clear hB1
        go_wp2_with fail
        refine hK.out _ _ (by exact True.intro) (fun hHeld => ?_)
        clear hK K
        try simp only [Act.put, List.setIfInBounds_toArray, List.set_cons_zero, List.set_cons_succ]
        refine wpAnyH_ready (rs := [4]) (by kernel_rfl) (by simp) ?_
        refine AllReadyH.cons (o := { dst := some 42, op := Op.buildSlice 23 1 #[(0, Operand.tmp 41)], type := 23, pos := "allocate.go:104", after := #[{ on := 3, ground := Ground.data }], guard := none }) rfl (fun K hK => ?_) AllReadyH.nil
        clear hHeld
        go_simp
        obtain ⟨WU, hWU⟩ : ∃ WU, WU = WZ.alloc (.cells #[.string sp] 22) := ⟨_, rfl⟩
        have HS2 := Lib.hid (show RunSt w T0 S0 R P0 Q0 n t u k (runs T W wt k) sq WU from by rw [hWU]; exact HSZ.out.next ((Below.refl _ _).alloc (Nat.le_refl _) _))
        have hU : WU.cell? ⟨WZ.heap.size, 0, none⟩ = some (.string sp) := by rw [hWU]; exact (Boxed.new WZ 22 (.string sp)).cell
        have HBU := Lib.hid (show Below WZ.heap.size WZ WU from by rw [hWU]; exact (Below.refl _ _).alloc (Nat.le_refl _) _)
        rw [← hWU]
        clear hWU
        have cU3 := HS2.out.row.cell hk
        have fU3 := HS2.out.row.frozen k
        have cU4 := HS2.out.bp.cell
        refine hK.out _ _ (by exact True.intro) (fun hHeld => ?_)
        clear hK K
        try simp only [Act.put, List.setIfInBounds_toArray, List.set_cons_zero, List.set_cons_succ]
        refine wpAnyH_ready (rs := [5]) (by kernel_rfl) (by simp) ?_
        refine AllReadyH.cons (o := { dst := some 43, op := Op.call { callee := Callee.builtin Builtin.append, args := #[Operand.tmp 38, Operand.tmp 42], argTypes := #[23, 23] }, type := 23, pos := "allocate.go:104", after := #[{ on := 0, ground := Ground.data }, { on := 4, ground := Ground.data }, { on := 3, ground := Ground.chain }], guard := none }) rfl (fun K hK => ?_) AllReadyH.nil
        clear hHeld
        go_simp
        have HS3 := Lib.hid ((HS2.out.add (c' := runs T W wt (k + 1)) ((HS2.out.row.set k (.string sp)).congr fun i _ => by rw [runs_next, HSP.out]; unfold upd; split <;> rfl) (grown_set (grown_refl WU (some R))) hwR hd1 hd2 hd3 hd4))
        have c3 := HS3.out.bp.cell
        have f3 := HS3.out.bp.frozen
        refine hK.out _ _ (by exact True.intro) (fun hHeld => ?_)
        clear hK K
        try simp only [Act.put, List.setIfInBounds_toArray, List.set_cons_zero, List.set_cons_succ]
        refine wpAnyH_ready (rs := [6]) (by kernel_rfl) (by simp) ?_
        refine AllReadyH.cons (o := { dst := none, op := Op.store 23 (Operand.tmp 8) (Operand.tmp 43), type := 0, pos := "allocate.go:104", after := #[{ on := 5, ground := Ground.data }, { on := 5, ground := Ground.chain }, { on := 0, ground := Ground.phase }, { on := 1, ground := Ground.phase }, { on := 2, ground := Ground.phase }, { on := 3, ground := Ground.phase }, { on := 4, ground := Ground.phase }, { on := 5, ground := Ground.phase }], guard := none }) rfl (fun K hK => ?_) AllReadyH.nil
        clear hHeld
        go_simp
        have HS4 := Lib.hid (HS3.out.setP hwP hd5 hd6 hd7 hd8 (k + 1))
        refine hK.out _ _ (by exact True.intro) (fun hHeld => ?_)
        clear hK K
        try simp only [Act.put, List.setIfInBounds_toArray, List.set_cons_zero, List.set_cons_succ]
        refine wpAnyH_done (by kernel_rfl) ?_ _
        clear hHeld
        have c4 := HS4.out.bq.cell
        have f4 := HS4.out.bq.frozen
        have HS5 := Lib.hid (HS4.out.setQ hwQ hd9 hda hdb hdc sf)
        clear cY3 cY4 cZ3 cU3 cU4 fU3 c3 f3 hU
        gi_wp2_with fail
        refine ⟨by rw [HSF.out]; exact HS5.out, fun j hj1 hj2 => ?_⟩
        have s1 : W'.heap.size ≤ WX.heap.size := HBX.out.size
        have s2 : WX.heap.size ≤ WY.heap.size := HBY.out.size
        have s3 : WY.heap.size ≤ WZ.heap.size := HBZ.out.size
        rw [Below.heap_setCell _ _ _ j (by simp only; omega), Below.heap_setCell _ _ _ j (by simp only; omega), Below.heap_setCell _ _ _ j (by simp only; omega)]
        exact (HBU.out.block j (by omega)).trans ((HBZ.out.block j (show j < WY.heap.size by omega)).trans ((HBY.out.block j (by omega)).trans (HBX.out.block j hj2)))
      · clear hHeld
        go_simp
        refine (HSU.out _ (HGW.out.below (HSY.out.drewN 1).below)).mono ?_
        rintro _ WZ ⟨rfl, hB1⟩
        have HSZ := Lib.hid ((HSY.out.drewN 1).next hB1)
        have HBZ := Lib.hid hB1
        have cZ3 := HSZ.out.bp.cell
        clear hB1
        go_wp2_with fail
        refine hK.out _ _ (by exact True.intro) (fun hHeld => ?_)
        clear hK K
        try simp only [Act.put, List.setIfInBounds_toArray, List.set_cons_zero, List.set_cons_succ]
        refine wpAnyH_ready (rs := [0, 4]) (by kernel_rfl) (by simp) ?_
        refine AllReadyH.cons (o := { dst := some 38, op := Op.load 23 (Operand.tmp 8), type := 23, pos := "allocate.go:104", after := #[], guard := none }) rfl (fun K hK => ?_) (AllReadyH.cons (o := { dst := some 42, op := Op.buildSlice 23 1 #[(0, Operand.tmp 41)], type := 23, pos := "allocate.go:104", after := #[{ on := 3, ground := Ground.data }], guard := none }) rfl (fun K hK => ?_) AllReadyH.nil)
        · clear hHeld
          go_simp
          refine hK.out _ _ (by exact True.intro) (fun hHeld => ?_)
          clear hK K
          try simp only [Act.put, List.setIfInBounds_toArray, List.set_cons_zero, List.set_cons_succ]
          refine wpAnyH_ready (rs := [4]) (by kernel_rfl) (by simp) ?_
          refine AllReadyH.cons (o := { dst := some 42, op := Op.buildSlice 23 1 #[(0, Operand.tmp 41)], type := 23, pos := "allocate.go:104", after := #[{ on := 3, ground := Ground.data }], guard := none }) rfl (fun K hK => ?_) AllReadyH.nil
          clear hHeld
          go_simp
          obtain ⟨WU, hWU⟩ : ∃ WU, WU = WZ.alloc (.cells #[.string sp] 22) := ⟨_, rfl⟩
          have HS2 := Lib.hid (show RunSt w T0 S0 R P0 Q0 n t u k (runs T W wt k) sq WU from by rw [hWU]; exact HSZ.out.next ((Below.refl _ _).alloc (Nat.le_refl _) _))
          have hU : WU.cell? ⟨WZ.heap.size, 0, none⟩ = some (.string sp) := by rw [hWU]; exact (Boxed.new WZ 22 (.string sp)).cell
          have HBU := Lib.hid (show Below WZ.heap.size WZ WU from by rw [hWU]; exact (Below.refl _ _).alloc (Nat.le_refl _) _)
          rw [← hWU]
          clear hWU
          have cU3 := HS2.out.row.cell hk
          have fU3 := HS2.out.row.frozen k
          have cU4 := HS2.out.bp.cell
          refine hK.out _ _ (by exact True.intro) (fun hHeld => ?_)
          clear hK K
          try simp only [Act.put, List.setIfInBounds_toArray, List.set_cons_zero, List.set_cons_succ]
          refine wpAnyH_ready (rs := [5]) (by kernel_rfl) (by simp) ?_
          refine AllReadyH.cons (o := { dst := some 43, op := Op.call { callee := Callee.builtin Builtin.append, args := #[Operand.tmp 38, Operand.tmp 42], argTypes := #[23, 23] }, type := 23, pos := "allocate.go:104", after := #[{ on := 0, ground := Ground.data }, { on := 4, ground := Ground.data }, { on := 3, ground := Ground.chain }], guard := none }) rfl (fun K hK => ?_) AllReadyH.nil
          clear hHeld
          go_simp
          have HS3 := Lib.hid ((HS2.out.add (c' := runs T W wt (k + 1)) ((HS2.out.row.set k (.string sp)).congr fun i _ => by rw [runs_next, HSP.out]; unfold upd; split <;> rfl) (grown_set (grown_refl WU (some R))) hwR hd1 hd2 hd3 hd4))
          have c3 := HS3.out.bp.cell
          have f3 := HS3.out.bp.frozen
          refine hK.out _ _ (by exact True.intro) (fun hHeld => ?_)
          clear hK K
          try simp only [Act.put, List.setIfInBounds_toArray, List.set_cons_zero, List.set_cons_succ]
          refine wpAnyH_ready (rs := [6]) (by kernel_rfl) (by simp) ?_
          refine AllReadyH.cons (o := { dst := none, op := Op.store 23 (Operand.tmp 8) (Operand.tmp 43), type := 0, pos := "allocate.go:104", after := #[{ on := 5, ground := Ground.data }, { on := 5, ground := Ground.chain }, { on := 0, ground := Ground.phase }, { on := 1, ground := Ground.phase }, { on := 2, ground := Ground.phase }, { on := 3, ground := Ground.phase }, { on := 4, ground := Ground.phase }, { on := 5, ground := Ground.phase }], guard := none }) rfl (fun K hK => ?_) AllReadyH.nil
          clear hHeld
          go_simp
          have HS4 := Lib.hid (HS3.out.setP hwP hd5 hd6 hd7 hd8 (k + 1))
          refine hK.out _ _ (by exact True.intro) (fun hHeld => ?_)
          clear hK K
          try simp only [Act.put, List.setIfInBounds_toArray, List.set_cons_zero, List.set_cons_succ]
          refine wpAnyH_done (by kernel_rfl) ?_ _
          clear hHeld
          have c4 := HS4.out.bq.cell
          have f4 := HS4.out.bq.frozen
          have HS5 := Lib.hid (HS4.out.setQ hwQ hd9 hda hdb hdc sf)
          clear cY3 cY4 cZ3 cU3 cU4 fU3 c3 f3 hU
          gi_wp2_with fail
          refine ⟨by rw [HSF.out]; exact HS5.out, fun j hj1 hj2 => ?_⟩
          have s1 : W'.heap.size ≤ WX.heap.size := HBX.out.size
          have s2 : WX.heap.size ≤ WY.heap.size := HBY.out.size
          have s3 : WY.heap.size ≤ WZ.heap.size := HBZ.out.size
          rw [Below.heap_setCell _ _ _ j (by simp only; omega), Below.heap_setCell _ _ _ j (by simp only; omega), Below.heap_setCell _ _ _ j (by simp only; omega)]
          exact (HBU.out.block j (by omega)).trans ((HBZ.out.block j (show j < WY.heap.size by omega)).trans ((HBY.out.block j (by omega)).trans (HBX.out.block j hj2)))
        · clear hHeld
          go_simp
          obtain ⟨WU, hWU⟩ : ∃ WU, WU = WZ.alloc (.cells #[.string sp] 22) := ⟨_, rfl⟩
          have HS2 := Lib.hid (show RunSt w T0 S0 R P0 Q0 n t u k (runs T W wt k) sq WU from by rw [hWU]; exact HSZ.out.next ((Below.refl _ _).alloc (Nat.le_refl _) _))
          have hU : WU.cell? ⟨WZ.heap.size, 0, none⟩ = some (.string sp) := by rw [hWU]; exact (Boxed.new WZ 22 (.string sp)).cell
          have HBU := Lib.hid (show Below WZ.heap.size WZ WU from by rw [hWU]; exact (Below.refl _ _).alloc (Nat.le_refl _) _)
          rw [← hWU]
          clear hWU
          have cU3 := HS2.out.row.cell hk
          have fU3 := HS2.out.row.frozen k
          have cU4 := HS2.out.bp.cell
          refine hK.out _ _ (by exact True.intro) (fun hHeld => ?_)
          clear hK K
          try simp only [Act.put, List.setIfInBounds_toArray, List.set_cons_zero, List.set_cons_succ]
          refine wpAnyH_ready (rs := [0]) (by kernel_rfl) (by simp) ?_
          refine AllReadyH.cons (o := { dst := some 38, op := Op.load 23 (Operand.tmp 8), type := 23, pos := "allocate.go:104", after := #[], guard := none }) rfl (fun K hK => ?_) AllReadyH.nil
          clear hHeld
          go_simp
          refine hK.out _ _ (by exact True.intro) (fun hHeld => ?_)
          clear hK K
          try simp only [Act.put, List.setIfInBounds_toArray, List.set_cons_zero, List.set_cons_succ]
          refine wpAnyH_ready (rs := [5]) (by kernel_rfl) (by simp) ?_
          refine AllReadyH.cons (o := { dst := some 43, op := Op.call { callee := Callee.builtin Builtin.append, args := #[Operand.tmp 38, Operand.tmp 42], argTypes := #[23, 23] }, type := 23, pos := "allocate.go:104", after := #[{ on := 0, ground := Ground.data }, { on := 4, ground := Ground.data }, { on := 3, ground := Ground.chain }], guard := none }) rfl (fun K hK => ?_) AllReadyH.nil
          clear hHeld
          go_simp
          have HS3 := Lib.hid ((HS2.out.add (c' := runs T W wt (k + 1)) ((HS2.out.row.set k (.string sp)).congr fun i _ => by rw [runs_next, HSP.out]; unfold upd; split <;> rfl) (grown_set (grown_refl WU (some R))) hwR hd1 hd2 hd3 hd4))
          have c3 := HS3.out.bp.cell
          have f3 := HS3.out.bp.frozen
          refine hK.out _ _ (by exact True.intro) (fun hHeld => ?_)
          clear hK K
          try simp only [Act.put, List.setIfInBounds_toArray, List.set_cons_zero, List.set_cons_succ]
          refine wpAnyH_ready (rs := [6]) (by kernel_rfl) (by simp) ?_
          refine AllReadyH.cons (o := { dst := none, op := Op.store 23 (Operand.tmp 8) (Operand.tmp 43), type := 0, pos := "allocate.go:104", after := #[{ on := 5, ground := Ground.data }, { on := 5, ground := Ground.chain }, { on := 0, ground := Ground.phase }, { on := 1, ground := Ground.phase }, { on := 2, ground := Ground.phase }, { on := 3, ground := Ground.phase }, { on := 4, ground := Ground.phase }, { on := 5, ground := Ground.phase }], guard := none }) rfl (fun K hK => ?_) AllReadyH.nil
          clear hHeld
          go_simp
          have HS4 := Lib.hid (HS3.out.setP hwP hd5 hd6 hd7 hd8 (k + 1))
          refine hK.out _ _ (by exact True.intro) (fun hHeld => ?_)
          clear hK K
          try simp only [Act.put, List.setIfInBounds_toArray, List.set_cons_zero, List.set_cons_succ]
          refine wpAnyH_done (by kernel_rfl) ?_ _
          clear hHeld
          have c4 := HS4.out.bq.cell
          have f4 := HS4.out.bq.frozen
          have HS5 := Lib.hid (HS4.out.setQ hwQ hd9 hda hdb hdc sf)
          clear cY3 cY4 cZ3 cU3 cU4 fU3 c3 f3 hU
          gi_wp2_with fail
          refine ⟨by rw [HSF.out]; exact HS5.out, fun j hj1 hj2 => ?_⟩
          have s1 : W'.heap.size ≤ WX.heap.size := HBX.out.size
          have s2 : WX.heap.size ≤ WY.heap.size := HBY.out.size
          have s3 : WY.heap.size ≤ WZ.heap.size := HBZ.out.size
          rw [Below.heap_setCell _ _ _ j (by simp only; omega), Below.heap_setCell _ _ _ j (by simp only; omega), Below.heap_setCell _ _ _ j (by simp only; omega)]
          exact (HBU.out.block j (by omega)).trans ((HBZ.out.block j (show j < WY.heap.size by omega)).trans ((HBY.out.block j (by omega)).trans (HBX.out.block j hj2)))
  case done =>
    rintro D W' hD h hK
    have HS := Lib.hid h
    have cP := h.bp.cell
    have HK := Lib.hid hK
    have HD := Lib.hid hD
    clear h hK hD hS5 hbl
    gi_wp2_with fail
    refine ⟨by simp, .inl ⟨_, _, rfl, run_takeDeferred HK.out, ?_⟩⟩
    have hDD := HD.out
    have hbs := HS.out.below
    refine ⟨_, results_tmp2 rfl _ _ _, R, rfl, ?_, ?_⟩
    · refine RowC.congr (c := fun i => .string (runs T W wt n i)) (HS.out.row.of_block (World.putObj_heap_other (by omega))) fun i hi => ?_
      unfold runs
      rw [if_pos hi]
    · exact hbs.grown (grownBy_putObj' W' D _) hbs.size (fun r e => by cases e; omega)

theorem aRun_ok (w : World) (hG : Ground w) (t : ByteArray) (xa : Option Addr) (n cap : Nat) (s : Nat → ByteArray) (hr : Rs w xa n s) (hf : FitW n t s) (h : weighE t n s = 0) :
    Calls Tryz.prog 18 #[.string t, .slice xa n cap] w fun e w' =>
      ∃ R, e = .returned (.tuple #[.slice (some ⟨R, 0, none⟩) n n, .int .i64 0]) ∧ (RowC w' R 22 n fun i => .string (cS (Num.runP (vS t) (Num.sumN (wtN s) n) (wtN s) i))) ∧ Below w.heap.size w w' :=
  callsIn_wide.1 (aRun_in 3 (Nat.le_refl _) w hG t xa n cap s hr hf h)

end Go.Proofs.YthhihdihkddakaaGreatDoor

/- allocate.Check: the walk. -/
namespace Go.Proofs.YthhihdihkddakaaGreatDoor
open Go.RowKit

theorem below_drew {B : Nat} {a w : World} (h : Below B a w) : Below B a w.drew := below_drewN h 1
/-- a part differs from its ideal part by less than 1 -/
def nearP (T : Int) (W : Nat) (x : Int) (m : Nat) : Bool := decide ((x * (W : Nat) - T * (m : Nat)).natAbs < W)
def nearS (t : ByteArray) (n : Nat) (s p : Nat → ByteArray) (k : Nat) : Bool := (List.range k).all fun i => nearP (vS t) (Num.sumN (wtN s) n) (vS (p i)) (wtN s i)
theorem nearS_succ (t : ByteArray) (n : Nat) (s p : Nat → ByteArray) (k : Nat) : nearS t n s p (k + 1) = (nearS t n s p k && nearP (vS t) (Num.sumN (wtN s) n) (vS (p k)) (wtN s k)) := by
  unfold nearS; rw [List.range_succ, List.all_append]; simp
theorem nearS_false {t : ByteArray} {n : Nat} {s p : Nat → ByteArray} {k m : Nat} (hk : k < m) (h : nearP (vS t) (Num.sumN (wtN s) n) (vS (p k)) (wtN s k) = false) : nearS t n s p m = false := by
  unfold nearS; rw [List.all_eq_false]; exact ⟨k, List.mem_range.2 hk, by simp [h]⟩
theorem nearS_true {t : ByteArray} {n : Nat} {s p : Nat → ByteArray} {m : Nat} (h : ∀ i, i < m → nearP (vS t) (Num.sumN (wtN s) n) (vS (p i)) (wtN s i) = true) : nearS t n s p m = true := by
  unfold nearS; rw [List.all_eq_true]; exact fun i hi => h i (List.mem_range.1 hi)

set_option maxRecDepth 100000 in
set_option maxHeartbeats 8000000 in
theorem aChk2_w (w : World) (hG : Ground w) (t : ByteArray) (xa ya : Option Addr) (n m cap cap2 : Nat) (s : Nat → ByteArray) (hr : Rs w xa n s) (hf : FitW n t s) (h : weighE t n s ≠ 0) :
    Calls Tryz.prog 30 #[.string t, .slice xa n cap, .slice ya m cap2] w fun e w' => e = .returned (.int .i64 (weighE t n s)) ∧ Below w.heap.size w w' := by
  have HW := Lib.hid (aWeigh w hG t xa n cap s hr hf)
  rw [if_neg h] at HW
  obtain ⟨c, hc⟩ : ∃ c, weighE t n s = c := ⟨_, rfl⟩
  rw [hc] at HW ⊢
  have hb : (c != 0) = true := by rw [bne_iff_ne, ← hc]; exact h
  clear hc h hr hf hG
  go_enter Tryz.func30, Tryz.ntmps30
  go_wp2_with fail
  refine HW.out.mono ?_
  rintro _ w1 ⟨rfl, hB⟩
  go_wp2_with fail
  go_ret
  exact ⟨rfl, hB⟩

set_option maxRecDepth 100000 in
set_option maxHeartbeats 8000000 in
theorem aChk2_n (w : World) (hG : Ground w) (t : ByteArray) (xa ya : Option Addr) (n m cap cap2 : Nat) (s : Nat → ByteArray) (hr : Rs w xa n s) (hf : FitW n t s) (h : weighE t n s = 0) (hnm : n ≠ m) :
    Calls Tryz.prog 30 #[.string t, .slice xa n cap, .slice ya m cap2] w fun e w' => e = .returned (.int .i64 9) ∧ Below w.heap.size w w' := by
  have HW := Lib.hid (aWeigh w hG t xa n cap s hr hf)
  rw [if_pos h, h] at HW
  have hb : ((m : Int) != (n : Int)) = true := by rw [bne_iff_ne]; omega
  have hb2 : ((m : Int) == (n : Int)) = false := by rw [beq_eq_false_iff_ne]; omega
  obtain ⟨u, hu⟩ : ∃ u, cS (sumS s n) = u := ⟨_, rfl⟩
  rw [hu] at HW
  clear h hr hf hG hnm hu
  go_enter Tryz.func30, Tryz.ntmps30
  go_wp2_with fail
  refine HW.out.mono ?_
  rintro _ w1 ⟨rfl, hB⟩
  go_wp2_with fail
  go_ret
  exact ⟨rfl, hB⟩

set_option maxRecDepth 100000 in
set_option maxHeartbeats 8000000 in
theorem aChk2_c (w : World) (hG : Ground w) (t : ByteArray) (xa ya : Option Addr) (n cap cap2 : Nat) (s p : Nat → ByteArray) (hr : Rs w xa n s) (hf : FitW n t s) (hp : Rs w ya n p) (hps : ∀ i, i < n → (p i).size ≤ 1000) (h : weighE t n s = 0) (ha : allC n p = false) :
    Calls Tryz.prog 30 #[.string t, .slice xa n cap, .slice ya n cap2] w fun e w' => e = .returned (.int .i64 1) ∧ Below w.heap.size w w' := by
  have hd := (weighE_zero h).data hf
  obtain ⟨c, hdiv⟩ := hd.div
  have hn := hdiv.few
  have HW := Lib.hid (aWeigh w hG t xa n cap s hr hf)
  rw [if_pos h, h] at HW
  rw [hd.sum] at HW
  have HA := Lib.hid (fun W hr => aCan W ya n cap2 p hr (by omega) (fun i hi => by have := hps i hi; omega))
  have HP := Lib.hid hp
  have HG := Lib.hid hG
  obtain ⟨u, hu⟩ : ∃ u, cS ((Num.sumN (wtN s) n : Nat) : Int) = u := ⟨_, rfl⟩
  rw [hu] at HW
  have HU := Lib.hid hu
  rw [ha] at HA
  clear h hr hf hG hp hps hd hdiv hu ha HU
  go_enter Tryz.func30, Tryz.ntmps30
  go_wp2_with fail
  refine HW.out.mono ?_
  rintro _ w1 ⟨rfl, hB⟩
  go_wp2_with fail
  refine (HA.out w1 (HP.out.belowAt hB (Nat.le_refl _))).mono ?_
  rintro _ _ ⟨rfl, rfl⟩
  go_wp2_with fail
  go_ret
  exact ⟨rfl, hB⟩

set_option maxRecDepth 100000 in
set_option maxHeartbeats 8000000 in
theorem aChk2_s (w : World) (hG : Ground w) (t : ByteArray) (xa ya : Option Addr) (n cap cap2 : Nat) (s p : Nat → ByteArray) (hr : Rs w xa n s) (hf : FitW n t s) (hp : Rs w ya n p) (hps : ∀ i, i < n → (p i).size ≤ 1000) (h : weighE t n s = 0) (ha : allC n p = true) (hs : sumS p n ≠ vS t) :
    Calls Tryz.prog 30 #[.string t, .slice xa n cap, .slice ya n cap2] w fun e w' => e = .returned (.int .i64 14) ∧ Below w.heap.size w w' := by
  have hd := (weighE_zero h).data hf
  obtain ⟨c, hdiv⟩ := hd.div
  have hn := hdiv.few
  have HW := Lib.hid (aWeigh w hG t xa n cap s hr hf)
  rw [if_pos h, h] at HW
  rw [hd.sum] at HW
  have HA := Lib.hid (fun W hr => aCan W ya n cap2 p hr (by omega) (fun i hi => by have := hps i hi; omega))
  have HP := Lib.hid hp
  have HG := Lib.hid hG
  obtain ⟨u, hu⟩ : ∃ u, cS ((Num.sumN (wtN s) n : Nat) : Int) = u := ⟨_, rfl⟩
  rw [hu] at HW
  have HU := Lib.hid hu
  rw [ha] at HA
  have HS := Lib.hid (fun W hG hr => aAddUp ya n cap2 1000 p W hG hr ⟨by omega, by decide, by decide, fun i hi => Cap.of (hps i hi) rfl, fun i hi => by have := hps i hi; omega⟩)
  unfold StrPost at HS
  have hne : ((cS (sumS p n)).toList == t.toList) = false := by
    rw [beq_toList]
    exact decide_eq_false fun e => hs (by rw [← vS_cS (sumS p n), e])
  obtain ⟨v, hv⟩ : ∃ v, cS (sumS p n) = v := ⟨_, rfl⟩
  rw [hv] at HS hne
  clear h hr hf hG hp hps hd hdiv hu ha HU hs hv
  go_enter Tryz.func30, Tryz.ntmps30
  go_wp2_with fail
  refine HW.out.mono ?_
  rintro _ w1 ⟨rfl, hB⟩
  go_wp2_with fail
  refine (HA.out w1 (HP.out.belowAt hB (Nat.le_refl _))).mono ?_
  rintro _ _ ⟨rfl, rfl⟩
  go_wp2_with fail
  refine (HS.out w1 (HG.out.below hB) (HP.out.belowAt hB (Nat.le_refl _))).mono ?_
  rintro _ w2 ⟨rfl, hB2⟩
  replace hB := hB.trans (hB2.mono hB.size)
  clear hB2
  go_wp2_with fail
  go_ret
  exact ⟨rfl, hB⟩

set_option maxRecDepth 100000 in
set_option maxHeartbeats 8000000 in
theorem aChk2_l (w : World) (hG : Ground w) (t : ByteArray) (xa ya : Option Addr) (n cap cap2 : Nat) (s p : Nat → ByteArray) (hr : Rs w xa n s) (hf : FitW n t s) (hp : Rs w ya n p) (hps : ∀ i, i < n → (p i).size ≤ 1000) (h : weighE t n s = 0) (ha : allC n p = true) (hs : sumS p n = vS t) (r : Int) (hr0 : nearS t n s p n = true → r = 0) (hr2 : nearS t n s p n = false → r = 2) :
    Calls Tryz.prog 30 #[.string t, .slice xa n cap, .slice ya n cap2] w fun e w' => e = .returned (.int .i64 r) ∧ Below w.heap.size w w' := by
  have hd := (weighE_zero h).data hf
  obtain ⟨c, hdiv⟩ := hd.div
  have hn := hdiv.few
  have HW := Lib.hid (aWeigh w hG t xa n cap s hr hf)
  rw [if_pos h, h] at HW
  rw [hd.sum] at HW
  have HA := Lib.hid (fun W hr => aCan W ya n cap2 p hr (by omega) (fun i hi => by have := hps i hi; omega))
  have HP := Lib.hid hp
  have HG := Lib.hid hG
  obtain ⟨u, hu⟩ : ∃ u, cS ((Num.sumN (wtN s) n : Nat) : Int) = u := ⟨_, rfl⟩
  rw [hu] at HW
  have HU := Lib.hid hu
  rw [ha] at HA
  have HS := Lib.hid (fun W hG hr => aAddUp ya n cap2 1000 p W hG hr ⟨by omega, by decide, by decide, fun i hi => Cap.of (hps i hi) rfl, fun i hi => by have := hps i hi; omega⟩)
  unfold StrPost at HS
  have HR0 := Lib.hid hr0
  have HR2 := Lib.hid hr2
  clear hr0 hr2
  rw [hs, ← hd.total] at HS
  have hf1 := hf.t1
  have HH := Lib.hid hdiv
  have HT := Lib.hid hd.total
  have HR := Lib.hid (Rs.congr hr (t := fun i => cS (wtN s i : Nat)) (fun i hi => (hd.each i hi).symm))
  have HPS := Lib.hid hps
  obtain ⟨T, hT⟩ : ∃ T, vS t = T := ⟨_, rfl⟩
  obtain ⟨W, hW⟩ : ∃ W, Num.sumN (wtN s) n = W := ⟨_, rfl⟩
  have HTT := Lib.hid hT
  have HWW := Lib.hid hW
  rw [hW] at hu
  rw [hT, hW] at hdiv
  have HDV := Lib.hid hdiv
  have HU2 := Lib.hid hu
  clear h hr hf hG hp hps hd hdiv hu ha HU hs hT hW HH
  go_enter Tryz.func30, Tryz.ntmps30
  go_wp2_with fail
  refine HW.out.mono ?_
  rintro _ w1 ⟨rfl, hB⟩
  go_wp2_with fail
  refine (HA.out w1 (HP.out.belowAt hB (Nat.le_refl _))).mono ?_
  rintro _ _ ⟨rfl, rfl⟩
  go_wp2_with fail
  refine (HS.out w1 (HG.out.below hB) (HP.out.belowAt hB (Nat.le_refl _))).mono ?_
  rintro _ w2 ⟨rfl, hB2⟩
  replace hB := hB.trans (hB2.mono hB.size)
  clear hB2
  go_wp2_with fail
  go_loopw [35] (fun iv wr => ∃ k : Nat, k ≤ n ∧ iv = .int .i64 (k : Int) ∧ nearS t n s p k = true ∧ Hid (Below w.heap.size w wr)) (fun iv _ => n - (intOf iv).toNat)
  case atStart => exact ⟨0, Nat.zero_le _, rfl, rfl, Lib.hid hB⟩
  case round =>
    clear hB
    obtain ⟨k, hk, rfl, hl, HB⟩ := hrel
    have HL := Lib.hid hl
    clear hl
    by_cases hlt : k < n
    · obtain ⟨b, o, rfl, hb, hck⟩ := Rs.at (HP.out.belowAt HB.out (Nat.le_refl _)) hlt
      obtain ⟨b2, o2, rfl, hb2, hck2⟩ := Rs.at (HR.out.belowAt HB.out (Nat.le_refl _)) hlt
      obtain ⟨b3, o3, he3, hb3, hck3⟩ := Rs.at HR.out hlt
      obtain ⟨rfl, rfl⟩ : b2 = b3 ∧ o2 = o3 := by cases he3; exact ⟨rfl, rfl⟩
      have hpk := HPS.out k hlt
      have hxc : Cap 1000 (vS (p k)) := Cap.of hpk rfl
      have hW1 : Cap c (W : Nat) := by have := HDV.out.capW; unfold Cap; omega
      have hT1 : Cap c T := HDV.out.capA
      have hw1 : Cap c (wtN s k : Nat) := by have := HDV.out.wlt hlt; unfold Cap; omega
      have hc2 := HDV.out.c2
      have hm1 := Cap.mul hxc hW1
      have hm2 := Cap.mul hT1 hw1
      have hsb := Cap.sub (hm1.mono (l := 1000 + c + c) (by omega)) (hm2.mono (l := 1000 + c + c) (by omega))
      have HM1 := Lib.hid (fun W' hW => mul_v (a := p k) (b := u) (z := vS (p k) * (W : Nat)) W' hW (by omega) (by rw [← HU2.out]; exact HDV.out.sizeW) rfl (by rw [← HU2.out]; exact vS_cS _) rfl)
      have HM2 := Lib.hid (fun W' hW => mul_v (a := t) (b := cS (wtN s k : Nat)) (z := T * (wtN s k : Nat)) W' hW (by omega) (HDV.out.sizewt hlt) HTT.out (vS_cS _) rfl)
      have HSB := Lib.hid (fun W' hW => sub_v (a := cS (vS (p k) * (W : Nat))) (b := cS (T * (wtN s k : Nat))) (z := vS (p k) * (W : Nat) - T * (wtN s k : Nat)) W' hW (cap_len hm1 (by omega)) (cap_len hm2 (by omega)) (vS_cS _) (vS_cS _) rfl)
      have HSZ := Lib.hid (fun W' => aSize (z := vS (p k) * (W : Nat) - T * (wtN s k : Nat)) (cap_len hsb (by omega)) W')
      have hz3 : Cap (1000 + c + c + 1) ((vS (p k) * (W : Nat) - T * (wtN s k : Nat)).natAbs : Int) := by unfold Cap at hsb ⊢; omega
      have HCM := Lib.hid (fun W' => compare_v (a := cS ((vS (p k) * (W : Nat) - T * (wtN s k : Nat)).natAbs : Int)) (b := u) (y := (W : Nat)) W' (cap_len hz3 (by omega)) (by rw [← HU2.out]; exact HDV.out.sizeW) (vS_cS _) (by rw [← HU2.out]; exact vS_cS _) rfl)
      have HNR := Lib.hid (show nearP (vS t) (Num.sumN (wtN s) n) (vS (p k)) (wtN s k) = decide ((vS (p k) * (W : Nat) - T * (wtN s k : Nat)).natAbs < W) by rw [HTT.out, HWW.out]; rfl)
      obtain ⟨z, hz⟩ : ∃ z, vS (p k) * (W : Nat) - T * (wtN s k : Nat) = z := ⟨_, rfl⟩
      rw [hz] at HSB HSZ HCM HNR
      unfold StrPost at HM1 HM2 HSB
      obtain ⟨x1, hx1⟩ : ∃ x, cS (vS (p k) * (W : Nat)) = x := ⟨_, rfl⟩
      obtain ⟨x2, hx2⟩ : ∃ x, cS (T * (wtN s k : Nat)) = x := ⟨_, rfl⟩
      obtain ⟨sw, hsw⟩ : ∃ x, cS (wtN s k : Nat) = x := ⟨_, rfl⟩
      obtain ⟨sp, hsp⟩ : ∃ x, p k = x := ⟨_, rfl⟩
      obtain ⟨cc, hcc⟩ : ∃ cc, cmp3 (z.natAbs : Int) (W : Nat) = cc := ⟨_, rfl⟩
      rw [hx1] at HM1
      rw [hx2, hsw] at HM2
      rw [hx1, hx2] at HSB
      rw [hcc] at HCM
      rw [hsp] at HM1 hck
      rw [hsw] at hck2 hck3
      have HCC := Lib.hid hcc
      clear hz hx1 hx2 hsw hsp hcc hpk hxc hW1 hT1 hw1 hm1 hm2 hsb hc2 he3 hb3 hz3
      go_wp2_with fail
      go_region_held3 (fun w' => w'.cell? ⟨b2, o2 + k, none⟩ = some (.string sw))
        (go_keep)
        (first
        | (go_at_call 36;
             (first
             | (with_reducible refine Calls.mono (HM1.out _ (by first | exact HG.out.below HB.out | exact HG.out.below (below_drew HB.out) | exact HG.out.below (below_drewN HB.out _))) ?_)
             | (with_reducible refine Calls.mono (HM2.out _ (by first | exact HG.out.below HB.out | exact HG.out.below (below_drew HB.out) | exact HG.out.below (below_drewN HB.out _))) ?_));
             (rintro _ WX ⟨rfl, hB1⟩);
             (have HB2 := Lib.hid (show Below w.heap.size w WX from by first | exact HB.out.trans (hB1.mono HB.out.size) | exact (below_drew HB.out).trans (hB1.mono HB.out.size) | exact (below_drewN HB.out _).trans (hB1.mono HB.out.size)));
             (have cX := (HB2.out.cell (p := ⟨b2, o2 + k, none⟩) (World.block_lt_of_cell? w ⟨b2, o2 + k, none⟩ hck3)).trans hck3);
             (clear HB hB1);
             (have HB := HB2);
             (clear HB2))
        | (go_at_call 35;
             (with_reducible refine Calls.mono (HSB.out _ (by first | exact HG.out.below HB.out | exact HG.out.below (below_drew HB.out) | exact HG.out.below (below_drewN HB.out _))) ?_);
             (rintro _ WX ⟨rfl, hB1⟩);
             (have HB2 := Lib.hid (show Below w.heap.size w WX from by first | exact HB.out.trans (hB1.mono HB.out.size) | exact (below_drew HB.out).trans (hB1.mono HB.out.size) | exact (below_drewN HB.out _).trans (hB1.mono HB.out.size)));
             (have cX := (HB2.out.cell (p := ⟨b2, o2 + k, none⟩) (World.block_lt_of_cell? w ⟨b2, o2 + k, none⟩ hck3)).trans hck3);
             (clear HB hB1);
             (have HB := HB2);
             (clear HB2)))
      all_goals clear hck hck2
      all_goals go_wp2_with fail
      all_goals refine (HSZ.out _).mono ?_
      all_goals rintro _ w5 ⟨rfl, hB5⟩
      all_goals have HB5 := Lib.hid (show Below w.heap.size w w5 from by first | exact HB.out.trans (hB5.mono HB.out.size) | exact (below_drew HB.out).trans (hB5.mono HB.out.size) | exact (below_drewN HB.out _).trans (hB5.mono HB.out.size))
      all_goals clear hB5 HB
      all_goals go_wp2_with fail
      all_goals refine (HCM.out _).mono ?_
      all_goals rintro _ w6 ⟨rfl, hB6⟩
      all_goals have HB6 := Lib.hid (HB5.out.trans (hB6.mono HB5.out.size))
      all_goals clear hB6 HB5
      all_goals by_cases hge : 0 ≤ cc
      · have HN := Lib.hid (show nearS t n s p n = false from nearS_false hlt (by rw [HNR.out]; refine decide_eq_false ?_; have := HCC.out; unfold cmp3 at this; split at this <;> (try split at this) <;> omega))
        go_wp2_with fail
        go_ret
        exact ⟨by rw [HR2.out HN.out]; rfl, HB6.out⟩
      · have HN := Lib.hid (show nearS t n s p (k + 1) = true by rw [nearS_succ, HL.out, HNR.out]; refine Eq.trans (Bool.true_and _) (decide_eq_true ?_); have := HCC.out; unfold cmp3 at this; split at this <;> (try split at this) <;> omega)
        go_wp2_with fail
        go_roundw
        case rel => exact ⟨k + 1, by omega, by simp, HN.out, HB6⟩
        case measure => simp [intOf]; omega
    · obtain rfl : k = n := by omega
      go_wp2_with fail
      go_ret
      exact ⟨by rw [HR0.out HL.out]; rfl, HB.out⟩

/-- what Check answers -/
def checkE (t : ByteArray) (n : Nat) (s : Nat → ByteArray) (m : Nat) (p : Nat → ByteArray) : Int :=
  if weighE t n s ≠ 0 then weighE t n s else if n ≠ m then 9 else if allC n p = false then 1 else if sumS p n ≠ vS t then 14 else if nearS t n s p n = true then 0 else 2
theorem aCheck (w : World) (hG : Ground w) (t : ByteArray) (xa ya : Option Addr) (n m cap cap2 : Nat) (s p : Nat → ByteArray) (hr : Rs w xa n s) (hf : FitW n t s) (hp : Rs w ya m p) (hps : m = n → ∀ i, i < n → (p i).size ≤ 1000) :
    Calls Tryz.prog 30 #[.string t, .slice xa n cap, .slice ya m cap2] w fun e w' => e = .returned (.int .i64 (checkE t n s m p)) ∧ Below w.heap.size w w' := by
  unfold checkE
  by_cases h : weighE t n s ≠ 0
  · rw [if_pos h]; exact aChk2_w w hG t xa ya n m cap cap2 s hr hf h
  rw [if_neg h]
  have h' : weighE t n s = 0 := by omega
  by_cases hnm : n ≠ m
  · rw [if_pos hnm]; exact aChk2_n w hG t xa ya n m cap cap2 s hr hf h' hnm
  rw [if_neg hnm]
  obtain rfl : m = n := by omega
  cases ha : allC m p with
  | false => rw [if_pos rfl]; exact aChk2_c w hG t xa ya m cap cap2 s p hr hf hp (hps rfl) h' ha
  | true =>
    rw [if_neg (by decide)]
    by_cases hs : sumS p m ≠ vS t
    · rw [if_pos hs]; exact aChk2_s w hG t xa ya m cap cap2 s p hr hf hp (hps rfl) h' ha hs
    · rw [if_neg hs]; exact aChk2_l w hG t xa ya m cap cap2 s p hr hf hp (hps rfl) h' ha (by omega) _ (fun h => if_pos h) (fun h => if_neg (by rw [h]; decide))

end Go.Proofs.YthhihdihkddakaaGreatDoor
