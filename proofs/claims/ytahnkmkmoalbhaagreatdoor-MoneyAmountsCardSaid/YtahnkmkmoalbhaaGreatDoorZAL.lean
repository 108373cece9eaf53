/- Layer 5, the program: a loop over currencies; add. -/
import Derived.Test.YtahnkmkmoalbhaaGreatDoorZAI
import Derived.Test.YtahnkmkmoalbhaaGreatDoorZAK
namespace Go.Proofs.YtahnkmkmoalbhaaGreatDoor
open Go.RowKit Go.Shelf

attribute [local go_sem] Oper.semAt_some

theorem wpIn_addMoney {F : Fence} {n : Nat} {w : World} {ops : Array Oper} {rest : List Oper} {o : Oper} {a : Act} {Q : Exit → Act → World → Prop} (hgd : o.guard = none) (sl x : Operand)
    (ho : o.op = .call { callee := .builtin .append, args := #[sl, x], argTypes := #[32, 32] })
    (base : Nat) (v : Value) (b : Bag) (p : ByteArray × Int) (hs : a.eval sl = v) (h : OB w base v b) (g : Nat) (hg : w.cell? ⟨g, 0, none⟩ = some (.string p.1)) (hg1 : w.cell? ⟨g, 1, none⟩ = some (.string (cS p.2))) (hx : a.eval x = .slice (some ⟨g, 0, none⟩) 1 1) (hl : b.length + 1 ≤ 10000000) (hb : base ≤ w.heap.size)
    (hK : ∀ v' w', OB w' base v' (b ++ [p]) → Below base w w' → w.grownBy w' v.ownBlock → wpListIn F n Tryz.prog ops Q rest (a.put o.dst v') w') : wpListIn F n Tryz.prog ops Q (o :: rest) a w := by
  refine wpListIn_plain hgd fun K hK' => ?_
  obtain ⟨v', w', hr, h2, h3, h4⟩ := OB.add h p g hg hg1 o.type hl hb
  unfold Oper.wpIn
  refine ⟨?_, ?_⟩
  · simp [Oper.about, ho, resolve, Target.leads, Sem.run_pure]
  · rw [Oper.semAt_plain F _ _ (by rw [ho]; intro c hc'; cases hc')]
    simp [execOp, ho, resolve, invoke, builtin, hs, hx, hr, Result.andThen]
    exact hK' _ _ (hK v' w' h2 h3 h4)

set_option maxRecDepth 100000 in
set_option maxHeartbeats 2000000 in
theorem cur_in (n : Nat) (xa ya : Option Addr) (N M ca cb : Nat) (w : World) :
    CallsIn Fence.wide n Tryz.prog 80 #[.slice xa N ca, .slice ya M cb] w fun e w' =>
      e = .returned (.func (.func 110) #[] #[.pointer (some ⟨w.heap.size, 0, none⟩), .pointer (some ⟨w.heap.size + 1, 0, none⟩)]) ∧
      w' = (w.alloc (.cells #[.slice xa N ca] 32)).alloc (.cells #[.slice ya M cb] 32) := by
  refine callsIn_of_wp Tryz.func80 rfl trivial ?_ rfl
  simp only [Tryz.ntmps80, List.size_toArray, List.length_cons, List.length_nil, Nat.reduceAdd, Nat.reduceSub, Array.replicate_succ, Array.replicate_zero, List.push_toArray, List.append_toArray, List.nil_append, List.cons_append]
  gi_wp2
  go_ret
  exact ⟨rfl, rfl⟩

set_option maxHeartbeats 1000000 in
/-- a loop over the codes of two bags with the amounts in both: I is the caller's own; all that lay in w0 stays -/
theorem wpIn_cur {n : Nat} (hn : 3 ≤ n) {g : Operand} {ps : Array Tmp} {assign body : Code} {Q : Exit → Act → World → Prop} {a : Act} {w w0 : World} {bA bB : Nat} {xa ya : Option Addr} {ca cb : Nat}
    (hg : a.eval g = .func (.func 110) #[] #[.pointer (some ⟨bA, 0, none⟩), .pointer (some ⟨bB, 0, none⟩)]) (hps : ps.size = 2)
    (N M : Nat) (u v s t : Nat → ByteArray) (hca : N ≤ ca) (hcb : M ≤ cb) (hs0 : Rf w0 xa N u v) (ht0 : Rf w0 ya M s t)
    (hbA : Boxed w bA 32 (.slice xa N ca)) (hbB : Boxed w bB 32 (.slice ya M cb))
    (I : Nat → Nat → World → Prop)
    (hI : ∀ i j A A' row, I i j A → A.grownBy A' row → (∀ r, row = some r → r = w.heap.size ∨ r = w.heap.size + 1) → I i j A')
    (hIb : ∀ i j A, I i j A → Below w0.heap.size w0 A)
    (h0 : I 0 0 w)
    (a₁ : ByteArray → ByteArray → ByteArray → Nat → Act)
    (hassign : ∀ (l : Nat) (c z1 z2 : ByteArray) (W : World) (K : Act → World → Prop), K (a₁ c z1 z2 W.heap.size) (W.alloc (.cells #[.string z1, .string z2] 101)) →
      assign.wpIn (Fence.wide.inRound l) (n - 1 - 1) Tryz.prog (Exit.then K (fun _ _ _ => False)) { tmps := (ps.zip #[.string c, .agg #[.string z1, .string z2]]).foldl (fun t (p, v) => t.setIfInBounds p v) a.tmps, defers := [] } W)
    (hbody : ∀ (l : Nat) (i j : Nat) (W : World) (c z1 z2 : ByteArray) (i' j' blk : Nat), MStep N M u v s t i j c z1 z2 i' j' → I i j W → PairAt W blk 101 z1 z2 → w.heap.size + 2 ≤ W.heap.size →
      body.wpIn (Fence.wide.inRound l) (n - 1 - 1) Tryz.prog (fun e _ W' => e = .normal ∧ I i' j' W' ∧ W'.heap[w.heap.size]? = W.heap[w.heap.size]? ∧ W'.heap[w.heap.size + 1]? = W.heap[w.heap.size + 1]?)
        (a₁ c z1 z2 blk) W)
    (hdone : ∀ (W : World), I N M W → W.heap[w.heap.size]? = some (.deferred (some [])) → Q .normal { a with defers := { target := .collected w.heap.size, args := #[] } :: a.defers } W) :
    (Code.rangeFunc g ps assign body).wpIn Fence.wide n Tryz.prog Q a w := by
  refine wpIn_rangeFunc ?_
  intro fn hfn
  obtain ⟨rec, hrec⟩ : ∃ rec : LoopState → Option Code → Loop, rec = fun st pe => { state := st, pending := pe, fn, tmps := a.tmps, params := ps, assign, body, defers := w.heap.size } := ⟨_, rfl⟩
  obtain ⟨W1, hW1⟩ : ∃ W1, (w.alloc (.deferred (some []))).alloc (.loop (rec .ready none)) = W1 := ⟨_, rfl⟩
  have hL1 : W1.heap[w.heap.size + 1]? = some (.loop (rec .ready none)) := by
    rw [← hW1]; have := World.alloc_heap_new (w.alloc (.deferred (some []))) (.loop (rec .ready none)); rwa [World.size_alloc] at this
  have hK1 : W1.heap[w.heap.size]? = some (.deferred (some [])) := by
    rw [← hW1]; exact (Below.heap_alloc _ _ _ (by simp)).trans (World.alloc_heap_new w _)
  have hB1 : Below w.heap.size w W1 := by
    rw [← hW1]; exact ((Below.refl _ w).alloc (Nat.le_refl _) _).alloc (by simp) _
  refine ⟨w.heap.size + 1, [{ target := .collected w.heap.size, args := #[] }], W1, { target := .fn (.func 110) #[.pointer (some ⟨bA, 0, none⟩), .pointer (some ⟨bB, 0, none⟩)], args := #[.func (.yield (w.heap.size + 1)) #[] #[]] }, W1, 110,
    #[.func (.yield (w.heap.size + 1)) #[] #[], .pointer (some ⟨bA, 0, none⟩), .pointer (some ⟨bB, 0, none⟩)], W1, ?_, ?_, fun _ _ => trivial, ?_, fun _ => by omega, ?_⟩
  · rw [← hW1, hrec]; exact run_enterLoop_outer _ _ _ _ _
  · simp only [resolve, hg]
    simp [go_sem]
  · simp [invoke, go_sem]
  · refine (cur1_in (n - 1) (by omega) (w.heap.size + 1) bA bB N M ca cb xa ya u v s t hca hcb
      (fun i j W => I i j W ∧ W.heap[w.heap.size + 1]? = some (.loop (rec .ready none)) ∧ W.heap[w.heap.size]? = some (.deferred (some [])) ∧ w.heap.size + 1 < W.heap.size)
      (fun i j A A' hs hb => ⟨hI _ _ _ _ none hs.1 (grown_of_below hb none) (fun r e => by cases e), (hb.block _ hs.2.2.2).trans hs.2.1, (hb.block _ (by have := hs.2.2.2; omega)).trans hs.2.2.1, Nat.lt_of_lt_of_le hs.2.2.2 hb.size⟩)
      (fun i j A hs => ⟨hs0.belowAt (hIb _ _ _ hs.1) (Nat.le_refl _), ht0.belowAt (hIb _ _ _ hs.1) (Nat.le_refl _)⟩)
      ?_ W1 ((hB1.cell (p := ⟨bA, 0, none⟩) hbA.lt).trans hbA.cell) ((hB1.cell (p := ⟨bB, 0, none⟩) hbB.lt).trans hbB.cell)
      ⟨hI _ _ _ _ none h0 (grown_of_below hB1 none) (fun r e => by cases e), hL1, hK1, (Array.getElem?_eq_some_iff.1 hL1).1⟩).mono ?_
    · rintro i j W c z1 z2 i' j' hst ⟨hi, hl, hk, hlt⟩
      have hy := run_yield (P := Tryz.prog) (args := #[.string c, .agg #[.string z1, .string z2]]) hl (by rw [hrec]; exact hps.symm)
      rw [hrec] at hy
      obtain ⟨X, hX⟩ : ∃ X, X = W.alloc (.cells #[.string z1, .string z2] 101) := ⟨_, rfl⟩
      have hbX : Below W.heap.size W X := by rw [hX]; exact (Below.refl _ _).alloc (Nat.le_refl _) _
      have hPX : PairAt X W.heap.size 101 z1 z2 := by rw [hX]; exact PairAt.made _ _ _ _
      have hlX := (hbX.block (w.heap.size + 1) hlt).trans hl
      have hkX := (hbX.block w.heap.size (by omega)).trans hk
      have hiX := hI _ _ _ _ none hi (grown_of_below hbX none) (fun r e => by cases e)
      have hltX : w.heap.size + 1 < X.heap.size := Nat.lt_of_lt_of_le hlt hbX.size
      refine ⟨fn, _, assign, body, hy, roundIn_of_wpIn hfn (hassign _ _ _ _ _ _ ?_)⟩
      rw [← hX]
      refine ⟨_, run_beginRound hlX (by rw [hrec]), ?_⟩
      have hl2 : (X.putObj (w.heap.size + 1) (.loop { rec .ready none with state := .busy })).heap[w.heap.size + 1]? = some (.loop { rec .ready none with state := .busy }) := World.putObj_heap_same hltX
      have hk2 : (X.putObj (w.heap.size + 1) (.loop { rec .ready none with state := .busy })).heap[w.heap.size]? = some (.deferred (some [])) := (World.putObj_heap_other (by omega)).trans hkX
      have hs2 : w.heap.size + 1 < (X.putObj (w.heap.size + 1) (.loop { rec .ready none with state := .busy })).heap.size := (Array.getElem?_eq_some_iff.1 hl2).1
      have hi2 := hI _ _ _ _ (some (w.heap.size + 1)) hiX (grownBy_putObj' X (w.heap.size + 1) (.loop { rec .ready none with state := .busy })) (fun r e => by cases e; omega)
      have hP2 : PairAt (X.putObj (w.heap.size + 1) (.loop { rec .ready none with state := .busy })) W.heap.size 101 z1 z2 := (World.putObj_heap_other (by omega)).trans hPX
      refine wpIn_mono (hbody _ i j _ c z1 z2 i' j' _ hst hi2 hP2 hs2) ?_
      rintro e a3 W3 ⟨rfl, hi3, hk3, hk4⟩
      have hl3 := hk4.trans hl2
      have hd3 := hk3.trans hk2
      have hlt3 := (Array.getElem?_eq_some_iff.1 hl3).1
      have her := run_endRound (P := Tryz.prog) none hl3
      refine ⟨_, _, her, rfl, hI _ _ _ _ (some (w.heap.size + 1)) hi3 (grownBy_putObj' W3 _ _) (fun r e => by cases e; omega), ?_, (World.putObj_heap_other (by omega)).trans hd3, ?_⟩
      · rw [World.putObj_heap_same hlt3, hrec]; rfl
      · exact Nat.lt_of_lt_of_le hlt3 (grownBy_putObj' W3 _ _).size
    · rintro e W2 ⟨⟨v, rfl⟩, hi, hl, hk, hlt⟩
      have hel := run_endLoop (P := Tryz.prog) hl (by rw [hrec]; simp)
      rw [hrec] at hel
      refine ⟨none, _, hel, ?_⟩
      refine hdone _ (hI _ _ _ _ (some (w.heap.size + 1)) hi (grownBy_putObj' W2 _ _) (fun r e => by cases e; omega)) ((World.putObj_heap_other (by omega)).trans hk)

/-! ### add -/
theorem MStep.mrg {N M : Nat} {u v s t : Nat → ByteArray} {i j i' j' : Nat} {c z1 z2 : ByteArray} (h : MStep N M u v s t i j c z1 z2 i' j') {A B S : Bag}
    (hm : MrgS A B (leftR N u (fun k => vS (v k)) i) (leftR M s (fun k => vS (t k)) j) S) :
    MrgS A B (leftR N u (fun k => vS (v k)) i') (leftR M s (fun k => vS (t k)) j') (S ++ keepL c (vS z1 + vS z2)) := by
  cases h with
  | left hi h => rw [vS_nil, Int.add_zero]; exact hm.leftAt hi h
  | right hj h => rw [vS_nil, Int.zero_add]; exact hm.rightAt hj h
  | both hi hj h => exact hm.bothAt hi hj h
theorem MStep.far {N M : Nat} {u v s t : Nat → ByteArray} {i j i' j' : Nat} {c z1 z2 : ByteArray} (h : MStep N M u v s t i j c z1 z2 i' j') (hi : i ≤ N) (hj : j ≤ M) : i + j + 1 ≤ i' + j' ∧ i' ≤ N ∧ j' ≤ M := by
  cases h with
  | left hi h => omega
  | right hj h => omega
  | both hi hj h => omega
theorem MStep.small {N M K : Nat} {u v s t : Nat → ByteArray} {i j i' j' : Nat} {c z1 z2 : ByteArray} (h : MStep N M u v s t i j c z1 z2 i' j') (hv : ∀ k, k < N → (v k).size ≤ K) (ht : ∀ k, k < M → (t k).size ≤ K) : z1.size ≤ K ∧ z2.size ≤ K := by
  have h0 : (ByteArray.mk #[]).size ≤ K := Nat.zero_le _
  cases h with
  | left hi h => exact ⟨hv _ hi, h0⟩
  | right hj h => exact ⟨h0, ht _ hj⟩
  | both hi hj h => exact ⟨hv _ hi, ht _ hj⟩
/-- a bag and an error (its slice has room for what it holds) -/
def BagP (b : Bag) (c : Int) (W : World) (e : Ending) (w' : World) : Prop := ∃ za cz, e = .returned (.tuple #[.slice za b.length (b.length + cz), .int .i64 c]) ∧ RB w' za b ∧ Below W.heap.size W w'
/-- what add has made when i and j elements have been taken -/
structure AddSt (w : World) (X0 L N M : Nat) (u v s t : Nat → ByteArray) (A B : Bag) (i j : Nat) (W : World) : Prop where
  sums : ∃ S sv, MrgS A B (leftR N u (fun k => vS (v k)) i) (leftR M s (fun k => vS (t k)) j) S ∧ OB W L sv S ∧ Boxed W X0 32 sv ∧ S.length ≤ i + j
  far : i ≤ N ∧ j ≤ M
  below : Below w.heap.size w W
theorem OB.grown {w w' : World} {base : Nat} {x : Value} {b : Bag} {row : Option Nat} (h : OB w base x b) (hg : w.grownBy w' row) (hr : ∀ r, row = some r → r < base) : OB w' base x b := by
  refine World.ownsRow.kept h hg ?_
  cases hv : x.ownBlock with
  | none => exact .inl rfl
  | some g =>
    refine .inr fun e => ?_
    have h1 := hr g e.symm
    rcases h.2 with ⟨rfl, _⟩ | ⟨g', cap, cur, rfl, hb, _⟩
    · cases hv
    · simp [Value.ownBlock] at hv
      omega
theorem AddSt.grown {w : World} {X0 L N M : Nat} {u v s t : Nat → ByteArray} {A B : Bag} {i j : Nat} {W W' : World} {row : Option Nat} (h : AddSt w X0 L N M u v s t A B i j W) (hg : W.grownBy W' row) (hr : ∀ r, row = some r → w.heap.size ≤ r ∧ r ≠ X0 ∧ r < L) : AddSt w X0 L N M u v s t A B i j W' := by
  obtain ⟨S, sv, h1, h2, h3, h4⟩ := h.sums
  exact ⟨⟨S, sv, h1, h2.grown hg fun r e => (hr r e).2.2, h3.kept hg (fun e => (hr _ e.symm).2.1 rfl), h4⟩, h.far, h.below.grown hg h.below.size (fun r e => (hr r e).1)⟩

set_option maxRecDepth 100000 in
set_option maxHeartbeats 4000000 in
theorem add_in (n : Nat) (hn : 3 ≤ n) (xa ya : Option Addr) (N M ca cb : Nat) (u v s t : Nat → ByteArray) (w : World) (hG : Ground w) (hx : Rf w xa N u v) (hy : Rf w ya M s t) (hca : N ≤ ca) (hcb : M ≤ cb) (hN : N ≤ 1000) (hM : M ≤ 1000)
    (hv : ∀ k, k < N → (v k).size ≤ 1000) (ht : ∀ k, k < M → (t k).size ≤ 1000) (ha : Asc (rowB N u v)) (na : NZ (rowB N u v)) (hb : Asc (rowB M s t)) (P : Bag × Int)
    (hP : P = if 16 < (addB (rowB N u v) (rowB M s t)).length then ([], 4) else (addB (rowB N u v) (rowB M s t), 0)) :
    CallsIn Fence.wide n Tryz.prog 54 #[.slice xa N ca, .slice ya M cb] w (BagP P.1 P.2 w) := by
  have h1 : 1 ≤ n := by omega
  have HP := Lib.hid hP
  clear hP
  have hmix : Tryz.prog.follows .mixedOrders = true := by kernel_rfl
  refine callsIn_of_wp_marks Tryz.func54 rfl trivial ?_ rfl
  simp only [Tryz.ntmps54, List.size_toArray, List.length_cons, List.length_nil, Nat.reduceAdd, Nat.reduceSub, Array.replicate_succ, Array.replicate_zero, List.push_toArray, List.append_toArray, List.nil_append, List.cons_append]
  gi_wp2_with fail
  refine ⟨trivial, (cur_in (n - 1) xa ya N M ca cb _).mono ?_⟩
  rintro e w1 ⟨rfl, rfl⟩
  obtain ⟨W1, hW1⟩ : ∃ W1, W1 = w.alloc (.cells #[.slice none 0 0] 32) := ⟨_, rfl⟩
  obtain ⟨X0, hX0⟩ : ∃ X, X = w.heap.size := ⟨_, rfl⟩
  obtain ⟨W3, hW3⟩ : ∃ W, W = (W1.alloc (.cells #[.slice xa N ca] 32)).alloc (.cells #[.slice ya M cb] 32) := ⟨_, rfl⟩
  obtain ⟨bA, hbA⟩ : ∃ x, x = W1.heap.size := ⟨_, rfl⟩
  have hs1 : W1.heap.size = w.heap.size + 1 := by rw [hW1]; exact World.size_alloc _ _
  have hs3 : W3.heap.size = bA + 2 := by rw [hW3, World.size_alloc, World.size_alloc, hbA]
  have hB1 : Below w.heap.size w W1 := by rw [hW1]; exact (Below.refl _ _).alloc (Nat.le_refl _) _
  have hB13 : Below W1.heap.size W1 W3 := by rw [hW3]; exact ((Below.refl _ _).alloc (Nat.le_refl _) _).alloc (by rw [World.size_alloc]; omega) _
  have hB3 : Below w.heap.size w W3 := hB1.trans (hB13.mono hB1.size)
  have hX1 : Boxed W1 X0 32 (.slice none 0 0) := by rw [hW1, hX0]; exact Boxed.new _ _ _
  have hX3 : Boxed W3 X0 32 (.slice none 0 0) := (hB13.block _ hX1.lt).trans hX1
  have hBA : Boxed W3 bA 32 (.slice xa N ca) := by rw [hW3, hbA]; exact (Boxed.new W1 _ _).alloc _
  have hBB : Boxed W3 (bA + 1) 32 (.slice ya M cb) := by
    have := Boxed.new (W1.alloc (.cells #[.slice xa N ca] 32)) 32 (.slice ya M cb)
    rw [World.size_alloc] at this
    rw [hW3, hbA]; exact this
  have hst0 : AddSt w X0 (W3.heap.size + 2) N M u v s t (rowB N u v) (rowB M s t) 0 0 W3 :=
    ⟨⟨[], _, MrgS.start ha hb, OB.nil _ _, hX3, Nat.zero_le _⟩, ⟨Nat.zero_le _, Nat.zero_le _⟩, hB3⟩
  have hL : X0 < W3.heap.size := hX3.lt
  have hXw : w.heap.size ≤ X0 := by rw [hX0]; exact Nat.le_refl _
  have HST0 := Lib.hid hst0
  have HBA := Lib.hid hBA
  have HBB := Lib.hid hBB
  have HB3 := Lib.hid hB3
  have HGW := Lib.hid hG
  have HNA := Lib.hid na
  have HAS := Lib.hid ha
  have HBS := Lib.hid hb
  have HV := Lib.hid hv
  have HT := Lib.hid ht
  have HX := Lib.hid hx
  have HY := Lib.hid hy
  rw [← hW1, ← hX0, ← hW3]
  clear hst0 hBA hBB hB3 hG na ha hb hv ht hx hy hX3 hX1 hB13 hB1 hW3 hW1 hX0 hs1 hs3
  subst hbA
  gi_wp2_with fail
  refine wpIn_cur hn (bA := W1.heap.size) (bB := W1.heap.size + 1) rfl rfl N M u v s t hca hcb HX.out HY.out HBA.out HBB.out
    (fun i j W => AddSt w X0 (W3.heap.size + 2) N M u v s t (rowB N u v) (rowB M s t) i j W)
    ?hI (fun i j A h => h.below) HST0.out
    (fun c z1 z2 blk => { tmps := #[.slice xa N ca, .slice ya M cb, undef, undef, .slice none 0 0, .int .i64 0, .pointer (some ⟨X0, 0, none⟩), .string c, .pointer (some ⟨blk, 0, none⟩), undef, .slice xa N ca, .slice ya M cb,
      .func (.func 110) #[] #[.pointer (some ⟨W1.heap.size, 0, none⟩), .pointer (some ⟨W1.heap.size + 1, 0, none⟩)], .string c, .agg #[.string z1, .string z2], undef, undef, undef, undef, undef, undef, undef, undef, undef, undef, undef, undef, undef, undef, undef, undef, undef], defers := [] }) ?assign ?body ?done
  case hI =>
    rintro i j A A' row h hg hr
    exact h.grown hg fun r e => by have := hr r e; have := HB3.out.size; omega
  case assign =>
    intro l c z1 z2 W K hK
    gi_wp2
    exact hK
  case body =>
    rintro l i j W c z1 z2 i' j' blk hst h hPP hsz
    obtain ⟨hz1, hz2⟩ := hst.small HV.out HT.out
    obtain ⟨q0, q1, _, _⟩ := hPP.cells
    obtain ⟨z, hz⟩ : ∃ z, vS z1 + vS z2 = z := ⟨_, rfl⟩
    have HA := Lib.hid (fun W' hW => add_v (a := z1) (b := z2) (z := z) W' hW (by omega) (by omega) rfl rfl hz)
    unfold StrPost at HA
    have hG' := HGW.out.below h.below
    have HS := Lib.hid h
    have HST := Lib.hid hst
    have HZ := Lib.hid hz
    clear hPP h hst hz hz1 hz2
    gi_wp2_with fail
    refine ⟨trivial, fun e => (by cases e), CallsIn.inRound l (callsIn_wide.2 ((HA.out W hG').mono ?_))⟩
    rintro e W4 ⟨rfl, hB4⟩
    have h4 := HS.out.grown (grown_of_below hB4 none) (fun r e => by cases e)
    have k1 := hB4.block W3.heap.size (by omega)
    have k2 := hB4.block (W3.heap.size + 1) (by omega)
    obtain ⟨S, sv, hm, hO, hbx, hlen⟩ := h4.sums
    have hm2 := HST.out.mrg hm
    rw [HZ.out] at hm2
    have hfar := HST.out.far h4.far.1 h4.far.2
    have hsz4 := hB4.size
    have HBW := Lib.hid h4.below
    by_cases h0 : z = 0
    · subst h0
      rw [show keepL c 0 = [] from if_pos rfl, List.append_nil] at hm2
      have HN := Lib.hid (show AddSt w X0 (W3.heap.size + 2) N M u v s t (rowB N u v) (rowB M s t) i' j' W4 from ⟨⟨S, sv, hm2, hO, hbx, by omega⟩, hfar.2, HBW.out⟩)
      rw [cS_zero]
      clear hm hm2 hO hbx h4 hlen hB4 q0 q1
      gi_wp2_with fail
      first | exact ⟨HN.out, k1, k2⟩ | exact HN.out | (refine ⟨HN.out, ?_⟩; simp [k1, k2])
    · have hne : ((cS z).toList == []) = false := by
        rw [← nil_toList, beq_toList]; exact decide_eq_false (cS_nn h0)
      rw [show keepL c z = [(c, z)] from if_neg h0] at hm2
      obtain ⟨zs, hzs⟩ : ∃ x, cS z = x := ⟨_, rfl⟩
      rw [hzs] at hne ⊢
      have HOa := Lib.hid (hO.alloc (.cells #[.string c, .string zs] 35))
      have HXa := Lib.hid (hbx.alloc (.cells #[.string c, .string zs] 35))
      have HC1 := Lib.hid (show (W4.alloc (.cells #[.string c, .string zs] 35)).cell? ⟨W4.heap.size, 0, none⟩ = some (.string c) from cell_of_row _ _ _ _ _ _ (heap_alloc_new W4 _))
      have HC2 := Lib.hid (show (W4.alloc (.cells #[.string c, .string zs] 35)).cell? ⟨W4.heap.size, 1, none⟩ = some (.string (cS z)) by rw [hzs]; exact cell_of_row _ _ _ _ _ _ (heap_alloc_new W4 _))
      have hle : W3.heap.size + 2 ≤ (W4.alloc (.cells #[.string c, .string zs] 35)).heap.size := by rw [World.size_alloc]; omega
      have HBa := Lib.hid (HBW.out.alloc HBW.out.size (.cells #[.string c, .string zs] 35))
      have HKa := Lib.hid (show (W4.alloc (.cells #[.string c, .string zs] 35)).heap[W3.heap.size]? = W.heap[W3.heap.size]? ∧ (W4.alloc (.cells #[.string c, .string zs] 35)).heap[W3.heap.size + 1]? = W.heap[W3.heap.size + 1]? from ⟨(Below.heap_alloc _ _ _ (by omega)).trans k1, (Below.heap_alloc _ _ _ (by omega)).trans k2⟩)
      have hsl : S.length + 1 ≤ 10000000 := by omega
      have cX := hbx.cell
      have HM2 := Lib.hid hm2
      have HF := Lib.hid hfar
      have HL := Lib.hid hlen
      have HL3 := Lib.hid hL
      clear hm hm2 hO hbx h4 hB4 k1 k2 hzs h0 hfar q0 q1 hlen
      gi_wp2_with (gi_at_builtin; refine wpIn_addMoney rfl _ _ rfl (W3.heap.size + 2) _ S (c, z) rfl HOa.out W4.heap.size HC1.out HC2.out rfl hsl hle ?_; intro vN WN hO hB hg8; obtain ⟨zn, cn, rfl, _, _, _⟩ := hO.rb; have HO := Lib.hid hO; have HXN := Lib.hid (show Boxed WN X0 32 sv from (hB.block X0 (Nat.lt_of_lt_of_le HL3.out (Nat.le_add_right _ _))).trans HXa.out); have HBN := Lib.hid hB; have cXN := HXN.out.cell; have fXN := HXN.out.frozen; clear hO hB hg8 HOa HXa HC1 HC2 cX)
      have HON := OB.grown HO.out (grown_set (i := 0) (v := .slice zn (S ++ [(c, z)]).length cn) (grown_refl WN (some X0))) (fun r e => by cases e; exact Nat.lt_of_lt_of_le HL3.out (Nat.le_add_right _ _))
      have HXX := HXN.out.set (.slice zn (S ++ [(c, z)]).length cn)
      have hbn := HBa.out.trans (HBN.out.mono (by have := HB3.out.size; omega))
      have hXw2 : w.heap.size ≤ X0 := hXw
      have hbX := hbn.setCell (p := ⟨X0, 0, none⟩) hXw2 (.slice zn (S ++ [(c, z)]).length cn)
      have hlen2 : (S ++ [(c, z)]).length ≤ i' + j' := by rw [List.length_append]; have := HF.out.1; have := HL.out; simp only [List.length_cons, List.length_nil]; omega
      have hst := (⟨⟨_, _, HM2.out, HON, HXX, hlen2⟩, HF.out.2, hbX⟩ : AddSt w X0 (W3.heap.size + 2) N M u v s t (rowB N u v) (rowB M s t) i' j' _)
      rw [show (S ++ [(c, z)]).length = S.length + 1 by simp] at hst
      have e1 : W3.heap.size ≠ X0 := by omega
      have e2 : W3.heap.size + 1 ≠ X0 := by omega
      refine ⟨hst, ?_, ?_⟩
      · rw [Below.heap_setCell _ _ _ _ e1, HBN.out.block _ (by omega), HKa.out.1]
      · rw [Below.heap_setCell _ _ _ _ e2, HBN.out.block _ (by omega), HKa.out.2]
  case done =>
    rintro W h hK
    obtain ⟨S, sv, hm, hO, hbx, hlen⟩ := h.sums
    have hS : S = addB (rowB N u v) (rowB M s t) := by
      rw [leftR_end (Nat.le_refl _), leftR_end (Nat.le_refl _)] at hm
      exact hm.done HAS.out HNA.out HBS.out
    obtain ⟨za, cap, hsv, hrb, hcap, _, hne, _⟩ := OwnC.rc hO
    have cX := hbx.cell
    rw [hsv] at cX
    have HK := Lib.hid hK
    have HB := Lib.hid h.below
    have HRB := Lib.hid hrb
    have HNE := Lib.hid hne
    have HC := Lib.hid hcap
    have HS := Lib.hid hS
    have HW3 := Lib.hid HB3.out.size
    have hl0 := HP.out
    rw [← hS] at hl0
    obtain ⟨sl, hsl⟩ : ∃ x, S.length = x := ⟨_, rfl⟩
    have HSL := Lib.hid hsl
    rw [hsl] at cX hl0
    clear hm hO hbx hlen hS hsv hrb hcap hne h hK hsl
    by_cases hl : 16 < sl
    · rw [if_pos hl] at hl0
      subst hl0
      have e1 : (16 : Int) < (sl : Int) := by omega
      gi_wp2_with fail
      refine ⟨by simp, .inl ⟨_, _, rfl, run_takeDeferred HK.out, ?_⟩⟩
      refine ⟨_, results_tmp2 rfl _ _ _, none, 0, rfl, Rc.nil _ _ _, ?_⟩
      exact HB.out.grown (grownBy_putObj' W _ _) HB.out.size (fun r e => by cases e; exact HW3.out)
    · rw [if_neg hl] at hl0
      subst hl0
      have e1 : ¬ (16 : Int) < (sl : Int) := by omega
      gi_wp2_with fail
      refine ⟨by simp, .inl ⟨_, _, rfl, run_takeDeferred HK.out, ?_⟩⟩
      refine ⟨_, results_tmp2 rfl _ _ _, za, cap - S.length, ?_, ?_, ?_⟩
      · have := HC.out
        show Ending.returned (Value.tuple #[Value.slice za sl cap, Value.int .i64 0]) = Ending.returned (Value.tuple #[Value.slice za S.length (S.length + (cap - S.length)), Value.int .i64 0])
        rw [show S.length + (cap - S.length) = cap by omega, HSL.out]
      · exact Rc.grown HRB.out (grownBy_putObj' W _ _) (fun b o e e2 => by have := HNE.out b o e; cases e2; omega)
      · exact HB.out.grown (grownBy_putObj' W _ _) HB.out.size (fun r e => by cases e; exact HW3.out)

end Go.Proofs.YtahnkmkmoalbhaaGreatDoor

/- Layer 5: what its functions return, as posts; the reference returns it; the law MoneySums over the program's contracts. -/
namespace Go.Proofs.YtahnkmkmoalbhaaGreatDoor
open Go.RowKit

/-- a bag and an error -/
def BagP0 (b : Bag) (c : Int) (W : World) (e : Ending) (w' : World) : Prop := ∃ za cz, e = .returned (.tuple #[.slice za b.length cz, .int .i64 c]) ∧ RB w' za b ∧ Below W.heap.size W w'
theorem bag_nil {c : Int} {W : World} {e : Ending} {w' : World} (h : e = .returned (nilM c) ∧ Below W.heap.size W w') : BagP0 [] c W e w' := ⟨none, 0, h.1, Rc.nil _ _ _, h.2⟩
/-- this value -/
def ValP (v : Value) (W : World) (e : Ending) (w' : World) : Prop := e = .returned v ∧ Below W.heap.size W w'
/-- from a bag with the rows u, v -/
def On1 (F : FuncId) (n : Nat) (u v : Nat → ByteArray) (Q : World → Ending → World → Prop) : Prop := ∀ W xa cap, Ground W → Rf W xa n u v → Calls Tryz.prog F #[.slice xa n cap] W (Q W)
/-- from two bags -/
def On2 (F : FuncId) (n : Nat) (u v : Nat → ByteArray) (m : Nat) (s t : Nat → ByteArray) (Q : World → Ending → World → Prop) : Prop := ∀ W xa ya ca cb, Ground W → Rf W xa n u v → Rf W ya m s t → Calls Tryz.prog F #[.slice xa n (n + ca), .slice ya m (m + cb)] W (Q W)
/-- from a bag and an amount -/
def OnM (F : FuncId) (n : Nat) (u v : Nat → ByteArray) (c z : ByteArray) (Q : World → Ending → World → Prop) : Prop := ∀ W xa cap, Ground W → Rf W xa n u v → Calls Tryz.prog F #[.slice xa n (n + cap), .agg #[.string c, .string z]] W (Q W)
/-- the sum of two bags, and its error -/
def sumO (n : Nat) (u v : Nat → ByteArray) (m : Nat) (s t : Nat → ByteArray) : Bag × Int :=
  if bagE isCan n u v = 0 ∧ bagE isCan m s t = 0 then (if 16 < (addB (rowB n u v) (rowB m s t)).length then ([], 4) else (addB (rowB n u v) (rowB m s t), 0)) else ([], 1)
/-- a bag with an amount put into it, and its error -/
def putO (n : Nat) (u v : Nat → ByteArray) (c z : ByteArray) : Bag × Int :=
  if bagE isCan n u v = 0 then (if codeS c = true then (if isCan z = true then (if 16 < (put (rowB n u v) c (vS z)).length then ([], 4) else (put (rowB n u v) c (vS z), 0)) else ([], 1)) else ([], 23)) else ([], 1)
/-- the opposite bag, and its error -/
def negO (n : Nat) (u v : Nat → ByteArray) : Bag × Int := if bagE isCan n u v = 0 then (negB (rowB n u v), 0) else ([], 1)
/-- short amounts and codes -/
structure Shrt (n : Nat) (u v : Nat → ByteArray) : Prop where
  max : n ≤ 18
  code : ∀ i, i < n → (u i).size ≤ 8
  num : ∀ i, i < n → (v i).size ≤ 20
theorem Shrt.fit {n : Nat} {u v : Nat → ByteArray} (h : Shrt n u v) : FitB n u v := ⟨by have := h.max; omega, fun i hi => by have := h.code i hi; omega, fun i hi => by have := h.num i hi; omega⟩
theorem Shrt.cap {n : Nat} {u v : Nat → ByteArray} (h : Shrt n u v) {i : Nat} (hi : i < n) : (vS (v i)).natAbs < 10 ^ 20 := Nat.lt_of_lt_of_le (Cap.of (h.num i hi) rfl) (Nat.le_refl _)
theorem Shrt.row {n : Nat} {u v : Nat → ByteArray} (h : Shrt n u v) : ∀ p, p ∈ rowB n u v → p.2.natAbs ≤ 10 ^ 20 := fun p hp => by
  unfold rowB bagL at hp
  obtain ⟨i, hi, rfl⟩ := List.mem_map.1 hp
  have := h.cap (List.mem_range.1 hi)
  show (vS (v i)).natAbs ≤ _
  omega
theorem shrt_of {n : Nat} {u v : Nat → ByteArray} (h : greatB n u v = false) : Shrt n u v := by
  obtain ⟨h1, h2⟩ := greatB_false h
  exact ⟨by omega, fun i hi => (h2 i hi).2, fun i hi => by have := (h2 i hi).1; omega⟩

theorem ref_sum {n m : Nat} {u v s t : Nat → ByteArray} (ha : Shrt n u v) (hb : Shrt m s t) : On2 30 n u v m s t (BagP0 (sumO n u v m s t).1 (sumO n u v m s t).2) := fun W xa ya ca cb hG hx hy => by
  by_cases h : bagE isCan n u v = 0 ∧ bagE isCan m s t = 0
  · refine (rSum_walk W xa ya n m (n + ca) (m + cb) u v s t hx hy ha.fit hb.fit h.1 h.2 _ _ rfl rfl ha.row hb.row (fun za l cz c w' => l = (sumO n u v m s t).1.length ∧ c = (sumO n u v m s t).2 ∧ RB w' za (sumO n u v m s t).1 ∧ (za = za ∧ cz = cz)) (fun hl za cz w' hr => ?_) (fun hl w' => ?_)).mono ?_
    · have e : sumO n u v m s t = (addB (rowB n u v) (rowB m s t), 0) := by unfold sumO; rw [if_pos h, if_neg (by omega)]
      rw [e]; exact ⟨rfl, rfl, hr, rfl, rfl⟩
    · have e : sumO n u v m s t = ([], 4) := by unfold sumO; rw [if_pos h, if_pos hl]
      rw [e]; exact ⟨rfl, rfl, Rc.nil _ _ _, rfl, rfl⟩
    · rintro e w' ⟨za, l, cz, c, rfl, ⟨rfl, rfl, hr, _⟩, hB⟩
      exact ⟨za, cz, rfl, hr, hB⟩
  · have e : sumO n u v m s t = ([], 1) := by unfold sumO; rw [if_neg h]
    rw [e]
    exact (rSum_bad W xa ya n m (n + ca) (m + cb) u v s t hx hy ha.fit hb.fit h).mono fun _ _ => bag_nil
theorem ref_put {n : Nat} {u v : Nat → ByteArray} {c z : ByteArray} (ha : Shrt n u v) (hc : c.size ≤ 8) (hz : z.size ≤ 13) : OnM 21 n u v c z (BagP0 (putO n u v c z).1 (putO n u v c z).2) := fun W xa cap hG hx => by
  have hs : ∀ i, i < n → (vS (v i)).natAbs < 10 ^ 30 := fun i hi => by have := ha.cap hi; omega
  by_cases h : bagE isCan n u v = 0
  · cases h1 : codeS c with
    | false =>
      rw [show putO n u v c z = ([], 23) by unfold putO; rw [if_pos h, h1]; rfl]
      exact (rPut_code W xa n (n + cap) u v c z hx ha.fit (by omega) h h1).mono fun _ _ => bag_nil
    | true =>
      cases h2 : isCan z with
      | false =>
        rw [show putO n u v c z = ([], 1) by unfold putO; rw [if_pos h, if_pos h1, h2]; rfl]
        exact (rPut_can W xa n (n + cap) u v c z hx ha.fit (by omega) (by omega) h h1 h2).mono fun _ _ => bag_nil
      | true =>
        by_cases hl : 16 < (put (rowB n u v) c (vS z)).length
        · rw [show putO n u v c z = ([], 4) by unfold putO; rw [if_pos h, if_pos h1, if_pos h2, if_pos hl]]
          exact (rPut_many W xa n (n + cap) u v c z hx ha.fit (by omega) (by omega) h h1 h2 hs hl).mono fun _ _ => bag_nil
        · rw [show putO n u v c z = (put (rowB n u v) c (vS z), 0) by unfold putO; rw [if_pos h, if_pos h1, if_pos h2, if_neg hl]]
          refine (rPut_ok W xa n (n + cap) u v c z hx ha.fit (by omega) (by omega) h h1 h2 hs (by omega)).mono ?_
          rintro e w' ⟨ya, cy, rfl, hr, hB⟩
          exact ⟨ya, cy, rfl, hr, hB⟩
  · rw [show putO n u v c z = ([], 1) by unfold putO; rw [if_neg h]]
    exact (rPut_bag W xa n (n + cap) u v c z hx ha.fit h).mono fun _ _ => bag_nil
theorem ref_neg {n : Nat} {u v : Nat → ByteArray} (ha : Shrt n u v) : On1 23 n u v (BagP0 (negO n u v).1 (negO n u v).2) := fun W xa cap hG hx => by
  by_cases h : bagE isCan n u v = 0
  · have hl : (negB (rowB n u v)).length = n := by unfold negB; rw [List.length_map]; exact bagL_len _ _ _
    rw [show negO n u v = (negB (rowB n u v), 0) from if_pos h]
    refine (rNegB_ok W xa n cap u v hx ha.fit h).mono ?_
    rintro e w' ⟨ya, cy, rfl, hr, hB⟩
    exact ⟨ya, cy, by rw [hl], hr, hB⟩
  · rw [show negO n u v = ([], 1) from if_neg h]
    exact (rNegB_bad W xa n cap u v hx ha.fit h).mono fun _ _ => bag_nil

/-! ### The laws' great, over slices that are laid for the call -/
def pick2 {α : Type} (x y : α) (i : Nat) : α := if i = 0 then x else y
theorem great_one {w : World} {xa : Option Addr} {n ca : Nat} {u v : Nat → ByteArray} (h : Rf w xa n u v) (hn : n ≤ 9223372036854775807) :
    Calls Tryz.prog 18 #[.slice (some ⟨w.heap.size, 0, none⟩) 1 1] (w.alloc (.cells #[.slice xa n ca] 32)) fun e w' => e = .returned (.bool (greatB n u v)) ∧ Below w.heap.size w w' := by
  have hb := (Below.refl w.heap.size w).alloc (Nat.le_refl _) (.cells #[.slice xa n ca] 32)
  have hlt := World.size_alloc w (.cells #[.slice xa n ca] 32)
  refine (rGreats _ _ 1 1 (fun _ => xa) (fun _ => n) (fun _ => ca) (fun _ => u) (fun _ => v) ⟨⟨fun _ => ⟨w.heap.size, 0, rfl, by omega, fun i hi => ?_⟩⟩, fun i hi => h.alloc _, fun i hi => hn⟩ (by decide)).mono fun e w' hh => ⟨?_, hb.trans (hh.2.mono (by omega))⟩
  · obtain rfl : i = 0 := by omega
    exact cell_of_row _ _ _ _ _ _ (heap_alloc_new w _)
  · rw [hh.1]; simp
theorem great_two {w : World} {xa ya : Option Addr} {n m ca cb : Nat} {u v s t : Nat → ByteArray} (h : Rf w xa n u v) (g : Rf w ya m s t) (hn : n ≤ 9223372036854775807) (hm : m ≤ 9223372036854775807) :
    Calls Tryz.prog 18 #[.slice (some ⟨w.heap.size, 0, none⟩) 2 2] (w.alloc (.cells #[.slice xa n ca, .slice ya m cb] 32)) fun e w' => e = .returned (.bool (greatB n u v || greatB m s t)) ∧ Below w.heap.size w w' := by
  have hb := (Below.refl w.heap.size w).alloc (Nat.le_refl _) (.cells #[.slice xa n ca, .slice ya m cb] 32)
  have hlt := World.size_alloc w (.cells #[.slice xa n ca, .slice ya m cb] 32)
  refine (rGreats _ _ 2 2 (pick2 xa ya) (pick2 n m) (pick2 ca cb) (pick2 u s) (pick2 v t) ⟨⟨fun _ => ⟨w.heap.size, 0, rfl, by omega, fun i hi => ?_⟩⟩, fun i hi => ?_, fun i hi => ?_⟩ (by decide)).mono fun e w' hh => ⟨?_, hb.trans (hh.2.mono (by omega))⟩
  · rcases (show i = 0 ∨ i = 1 by omega) with rfl | rfl
    · exact cell_of_row _ _ _ _ _ _ (heap_alloc_new w _)
    · exact cell_of_row _ _ _ _ _ _ (heap_alloc_new w _)
  · rcases (show i = 0 ∨ i = 1 by omega) with rfl | rfl
    · exact h.alloc _
    · exact g.alloc _
  · rcases (show i = 0 ∨ i = 1 by omega) with rfl | rfl
    · exact hn
    · exact hm
  · rw [hh.1]; simp [List.range_succ, pick2]

/-! ### MoneySums -/
set_option maxRecDepth 100000 in
set_option maxHeartbeats 16000000 in
theorem ams_great (haw : ∀ W, Ground W → Calls Tryz.prog 13 #[] W (ValP (.bool true) W)) (xa ya : Option Addr) (n m ca cb : Nat) (u v s t : Nat → ByteArray) (w : World) (hG : Ground w) (hx : Rf w xa n u v) (hy : Rf w ya m s t) (hn : n ≤ 9223372036854775807) (hm : m ≤ 9223372036854775807) (hg : (greatB n u v || greatB m s t) = true) :
    Calls Tryz.prog 5 #[.slice xa n (n + ca), .slice ya m (m + cb)] w (ValP (.bool true) w) := by
  have HGR := Lib.hid (great_two (ca := n + ca) (cb := m + cb) hx hy hn hm)
  rw [hg] at HGR
  have HAW := Lib.hid haw
  have HG := Lib.hid hG
  unfold ValP at HAW ⊢
  clear hx hy hg haw hG hn hm
  go_enter Tryz.func5, Tryz.ntmps5
  go_wp2_with fail
  refine HGR.out.mono ?_
  rintro _ w1 ⟨rfl, hb⟩
  go_wp2_with fail
  refine (HAW.out _ (HG.out.below hb)).mono ?_
  rintro _ w2 ⟨rfl, hB⟩
  go_wp2_with fail
  go_ret
  exact ⟨rfl, hb.trans (hB.mono hb.size)⟩
set_option maxRecDepth 100000 in
set_option maxHeartbeats 16000000 in
theorem ams_ok (haw : ∀ W, Ground W → Calls Tryz.prog 13 #[] W (ValP (.bool true) W)) (hps : ∀ {n m : Nat} {u v s t : Nat → ByteArray}, Shrt n u v → Shrt m s t → On2 29 n u v m s t (BagP (sumO n u v m s t).1 (sumO n u v m s t).2)) (xa ya : Option Addr) (n m ca cb : Nat) (u v s t : Nat → ByteArray) (w : World) (hG : Ground w) (hx : Rf w xa n u v) (hy : Rf w ya m s t) (hn : n ≤ 9223372036854775807) (hm : m ≤ 9223372036854775807) (hg : (greatB n u v || greatB m s t) = false) :
    Calls Tryz.prog 5 #[.slice xa n (n + ca), .slice ya m (m + cb)] w (ValP (.bool true) w) := by
  have HGR := Lib.hid (great_two (ca := n + ca) (cb := m + cb) hx hy hn hm)
  rw [hg] at HGR
  rw [Bool.or_eq_false_iff] at hg
  have hsa := shrt_of hg.1
  have hsb := shrt_of hg.2
  have H1 := Lib.hid (hps hsa hsb)
  have H2 := Lib.hid (ref_sum hsa hsb)
  obtain ⟨b, hb0⟩ : ∃ b, (sumO n u v m s t).1 = b := ⟨_, rfl⟩
  obtain ⟨c, hc0⟩ : ∃ c, (sumO n u v m s t).2 = c := ⟨_, rfl⟩
  rw [hb0, hc0] at H1 H2
  have hbl : b.length ≤ 100 := by
    rw [← hb0]
    unfold sumO
    split
    · split
      · simp
      · show (addB _ _).length ≤ 100
        omega
    · simp
  have HX := Lib.hid hx
  have HY := Lib.hid hy
  have HAW := Lib.hid haw
  have HG := Lib.hid hG
  unfold On2 BagP at H1
  unfold On2 BagP0 at H2
  unfold ValP at HAW ⊢
  clear hx hy hg haw hG hn hm hsa hsb hb0 hc0 hps
  go_enter Tryz.func5, Tryz.ntmps5
  go_wp2_with fail
  refine HGR.out.mono ?_
  rintro _ w1 ⟨rfl, hb⟩
  go_wp2_with fail
  refine Calls.mono (H1.out _ _ _ _ _ (HG.out.below hb) (HX.out.belowAt hb (Nat.le_refl _)) (HY.out.belowAt hb (Nat.le_refl _))) ?_
  rintro _ w2 ⟨aa, ac, rfl, ar, hB⟩
  replace hb := hb.trans (hB.mono hb.size)
  clear hB
  go_wp2_with fail
  refine Calls.mono (H2.out _ _ _ _ _ (HG.out.below hb) (HX.out.belowAt hb (Nat.le_refl _)) (HY.out.belowAt hb (Nat.le_refl _))) ?_
  rintro _ w3 ⟨ba, bc, rfl, br, hB⟩
  replace ar := Rc.below ar hB
  replace hb := hb.trans (hB.mono hb.size)
  clear hB
  go_wp2_with fail
  refine Calls.mono (eqMoney _ _ _ b.length _ _ (atU b) (fun i => cS (atX b i)) (atU b) (fun i => cS (atX b i)) ar br (by omega)) ?_
  rw [show sameM b.length (atU b) (fun i => cS (atX b i)) (atU b) (fun i => cS (atX b i)) = true from decide_eq_true fun _ _ => ⟨rfl, rfl⟩]
  rintro _ _ ⟨rfl, q, rfl⟩
  have hb := below_drewN hb q
  clear ar br
  go_wp2_with fail
  refine (HAW.out _ (HG.out.below hb)).mono ?_
  rintro _ w5 ⟨rfl, hB⟩
  go_wp2_with fail
  go_ret
  exact ⟨rfl, hb.trans (hB.mono hb.size)⟩

end Go.Proofs.YtahnkmkmoalbhaaGreatDoor
