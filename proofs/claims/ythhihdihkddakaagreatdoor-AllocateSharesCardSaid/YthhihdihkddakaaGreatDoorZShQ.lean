/- allocate.Running: the walk. -/
import Derived.Test.YthhihdihkddakaaGreatDoorZShP
namespace Go.Proofs.YthhihdihkddakaaGreatDoor
open Go.RowKit Go.Shelf

attribute [local go_sem] Oper.semAt_some

theorem run_makeRoom (n : Nat) (hn : n ≤ 1099511627776) (w : World) :
    (Instr.makeSlice 23 (.int .i64 0) (.int .i64 (n : Int))).run Tryz.prog w = .ok (.slice (some ⟨w.heap.size, 0, none⟩) 0 n) (w.alloc (.cells (madeCells #[.string ⟨#[]⟩] n) 22)) := by
  obtain ⟨i0, hi, hz0, hz1, hz2⟩ := info_parts info_Int
  have hr := run_make (P := Tryz.prog) w 23 22 i0 (.string ⟨#[]⟩) Tryz.underlying23 hi hz0 .i64 .i64 0 n (by omega) (by omega) (by rw [hz2]; omega) (by omega)
  simp only [Int.toNat_natCast, Int.toNat_zero] at hr
  rw [hr, hz1]
  simp [Value.cells]

/-- the variables of Running between two rounds -/
structure RunSt (w : World) (T0 S0 R P0 Q0 n : Nat) (t u : ByteArray) (k : Nat) (c : Nat → ByteArray) (q : ByteArray) (W : World) : Prop where
  bt : Boxed W T0 22 (.string t)
  bs : Boxed W S0 22 (.string u)
  row : RowC W R 22 n fun i => .string (c i)
  bp : Boxed W P0 23 (.slice (some ⟨R, 0, none⟩) k n)
  bq : Boxed W Q0 22 (.string q)
  below : Below w.heap.size w W
variable {w : World} {T0 S0 R P0 Q0 n : Nat} {t u : ByteArray} {k : Nat} {c : Nat → ByteArray} {q : ByteArray} {W : World}
theorem RunSt.next {W' : World} (h : RunSt w T0 S0 R P0 Q0 n t u k c q W) (hb : Below W.heap.size W W') : RunSt w T0 S0 R P0 Q0 n t u k c q W' :=
  ⟨(hb.block _ h.bt.lt).trans h.bt, (hb.block _ h.bs.lt).trans h.bs, h.row.below hb h.row.lt, (hb.block _ h.bp.lt).trans h.bp, (hb.block _ h.bq.lt).trans h.bq, h.below.trans (hb.mono h.below.size)⟩
theorem RunSt.drewN (h : RunSt w T0 S0 R P0 Q0 n t u k c q W) (m : Nat) : RunSt w T0 S0 R P0 Q0 n t u k c q (W.drewN m) := ⟨h.bt, h.bs, h.row, h.bp, h.bq, below_drewN h.below m⟩
theorem RunSt.grown {W' : World} {row : Option Nat} (h : RunSt w T0 S0 R P0 Q0 n t u k c q W) (hg : W.grownBy W' row) (hr : ∀ r, row = some r → w.heap.size ≤ r ∧ r ≠ T0 ∧ r ≠ S0 ∧ r ≠ R ∧ r ≠ P0 ∧ r ≠ Q0) : RunSt w T0 S0 R P0 Q0 n t u k c q W' :=
  ⟨h.bt.kept hg (fun e => (hr _ e.symm).2.1 rfl), h.bs.kept hg (fun e => (hr _ e.symm).2.2.1 rfl), h.row.of_block (hg.block _ h.row.lt (fun e => (hr _ e.symm).2.2.2.1 rfl)), h.bp.kept hg (fun e => (hr _ e.symm).2.2.2.2.1 rfl), h.bq.kept hg (fun e => (hr _ e.symm).2.2.2.2.2 rfl), h.below.grown hg h.below.size (fun r e => (hr r e).1)⟩
/-- the row has one part more -/
theorem RunSt.add {W' : World} (h : RunSt w T0 S0 R P0 Q0 n t u k c q W) {c' : Nat → ByteArray} (hr : RowC W' R 22 n fun i => .string (c' i)) (hg : W.grownBy W' (some R)) (hw : w.heap.size ≤ R) (h1 : T0 ≠ R) (h2 : S0 ≠ R) (h3 : P0 ≠ R) (h4 : Q0 ≠ R) : RunSt w T0 S0 R P0 Q0 n t u k c' q W' :=
  ⟨h.bt.kept hg (fun e => h1 (by cases e; rfl)), h.bs.kept hg (fun e => h2 (by cases e; rfl)), hr, h.bp.kept hg (fun e => h3 (by cases e; rfl)), h.bq.kept hg (fun e => h4 (by cases e; rfl)), h.below.grown hg h.below.size (fun r e => by cases e; exact hw)⟩
theorem RunSt.setP (h : RunSt w T0 S0 R P0 Q0 n t u k c q W) (hw : w.heap.size ≤ P0) (h1 : T0 ≠ P0) (h2 : S0 ≠ P0) (h3 : R ≠ P0) (h4 : Q0 ≠ P0) (k' : Nat) : RunSt w T0 S0 R P0 Q0 n t u k' c q (W.setCell ⟨P0, 0, none⟩ (.slice (some ⟨R, 0, none⟩) k' n)) :=
  ⟨h.bt.other h1 _, h.bs.other h2 _, h.row.setOther (a := ⟨P0, 0, none⟩) h3 _, h.bp.set _, h.bq.other h4 _, h.below.setCell (p := ⟨P0, 0, none⟩) hw _⟩
theorem RunSt.setQ (h : RunSt w T0 S0 R P0 Q0 n t u k c q W) (hw : w.heap.size ≤ Q0) (h1 : T0 ≠ Q0) (h2 : S0 ≠ Q0) (h3 : R ≠ Q0) (h4 : P0 ≠ Q0) (q' : ByteArray) : RunSt w T0 S0 R P0 Q0 n t u k c q' (W.setCell ⟨Q0, 0, none⟩ (.string q')) :=
  ⟨h.bt.other h1 _, h.bs.other h2 _, h.row.setOther (a := ⟨Q0, 0, none⟩) h3 _, h.bp.other h4 _, h.bq.set _, h.below.setCell (p := ⟨Q0, 0, none⟩) hw _⟩
theorem RunSt.congr (h : RunSt w T0 S0 R P0 Q0 n t u k c q W) {c' : Nat → ByteArray} (e : ∀ i, i < n → c' i = c i) : RunSt w T0 S0 R P0 Q0 n t u k c' q W :=
  ⟨h.bt, h.bs, h.row.congr fun i hi => by rw [e i hi], h.bp, h.bq, h.below⟩

/-- the part of the first k weights -/
def flo (T : Int) (W : Nat) (wt : Nat → Nat) (k : Nat) : Int := Int.fdiv (T * (Num.sumN wt k : Nat)) (W : Nat)
theorem runP_eq (T : Int) (W : Nat) (wt : Nat → Nat) (k : Nat) : Num.runP T W wt k = flo T W wt (k + 1) - flo T W wt k := rfl
theorem DivAt.mulT {A W n d : Nat} {wt : Nat → Nat} {T : Int} (h : DivAt A W n wt d) (hT : T.natAbs = A) {k : Nat} (hk : k ≤ n) : Cap (d + d) (T * (Num.sumN wt k : Nat)) := by
  refine Cap.mul (k := d) (l := d) ?_ ?_
  · unfold Cap; rw [hT]; exact h.capA
  · have h1 := sumN_le (f := wt) hk
    have h2 := h.sum
    have h3 := h.capW
    unfold Cap
    omega
theorem DivAt.flo {A W n d : Nat} {wt : Nat → Nat} {T : Int} (h : DivAt A W n wt d) (hT : T.natAbs = A) {k : Nat} (hk : k ≤ n) : Cap (d + d + 1) (flo T W wt k) :=
  Cap.fdiv' (h.mulT hT hk) (by have := h.w0; omega)
theorem cap_len {k : Nat} {z : Int} (h : Cap k z) (hk : k ≤ 1000000) : (cS z).size ≤ 4294967295 := by have := cS_size h; omega
/-- the first k parts -/
def runs (T : Int) (W : Nat) (wt : Nat → Nat) (k i : Nat) : ByteArray := if i < k then cS (Num.runP T W wt i) else ⟨#[]⟩
theorem runs_next (T : Int) (W : Nat) (wt : Nat → Nat) (k i : Nat) : runs T W wt (k + 1) i = upd (runs T W wt k) k (cS (Num.runP T W wt k)) i := by
  unfold runs upd
  by_cases e : i = k
  · subst e; rw [if_pos (by omega), if_pos rfl]
  · rw [if_neg e]
    dsimp only
    by_cases g : i < k
    · rw [if_pos g, if_pos (by omega)]
    · rw [if_neg g, if_neg (by omega)]

set_option maxRecDepth 1000000 in
set_option maxHeartbeats 16000000 in
theorem aRun_in (f : Nat) (hf3 : 3 ≤ f) (w : World) (hG : Ground w) (t : ByteArray) (xa : Option Addr) (n cap : Nat) (s : Nat → ByteArray) (hr : Rs w xa n s) (hf : FitW n t s) (h : weighE t n s = 0) :
    CallsIn Fence.wide f Tryz.prog 18 #[.string t, .slice xa n cap] w fun e w' =>
      ∃ R, e = .returned (.tuple #[.slice (some ⟨R, 0, none⟩) n n, .int .i64 0]) ∧ (RowC w' R 22 n fun i => .string (cS (Num.runP (vS t) (Num.sumN (wtN s) n) (wtN s) i))) ∧ Below w.heap.size w w' := by
  have h1 : 1 ≤ f := by omega
  have hmix : Tryz.prog.follows .mixedOrders = true := by kernel_rfl
  have hgd := weighE_zero h
  have hfit := hf.fit hgd.few
  have hd := hgd.data hf
  obtain ⟨W0, hW0⟩ : ∃ W0, W0 = w.alloc (.cells #[.string t] 22) := ⟨_, rfl⟩
  obtain ⟨T0, hT0⟩ : ∃ T0, T0 = w.heap.size := ⟨_, rfl⟩
  have hB0 : Below w.heap.size w W0 := by rw [hW0]; exact (Below.refl _ _).alloc (Nat.le_refl _) _
  have hbt : Boxed W0 T0 22 (.string t) := by rw [hW0, hT0]; exact Boxed.new _ _ _
  have HW := Lib.hid (aWeigh W0 (hG.below hB0) t xa n cap s (hr.belowAt hB0 (Nat.le_refl _)) hf)
  rw [if_pos h, h, hd.sum] at HW
  obtain ⟨d, hdiv⟩ := hd.div
  obtain ⟨T, hT⟩ : ∃ T, vS t = T := ⟨_, rfl⟩
  obtain ⟨wt, hwt⟩ : ∃ wt, wtN s = wt := ⟨_, rfl⟩
  have hss : ∀ k, k ≤ n → sumS s k = (Num.sumN wt k : Nat) := fun k hk => by rw [← hwt]; exact sumS_wt fun i hi => hgd.nn i (by omega)
  rw [hT, hwt] at hdiv
  rw [hwt] at HW
  rw [hT, hwt]
  obtain ⟨W, hWW⟩ : ∃ W, Num.sumN wt n = W := ⟨_, rfl⟩
  rw [hWW] at hdiv HW ⊢
  have hn := hdiv.few
  have hroom := run_makeRoom n (by omega)
  have HDV := Lib.hid hdiv
  have HTT := Lib.hid hT
  have HSS := Lib.hid hss
  have HB0 := Lib.hid hB0
  have HBT := Lib.hid hbt
  have HGW := Lib.hid hG
  have HRS := Lib.hid hr
  have HFT := Lib.hid hfit
  have HT0 := Lib.hid hT0
  have HTS := Lib.hid (show t.size ≤ 4294967295 by have := hf.t1; omega)
  clear hgd hf h hd hT hwt hss hB0 hbt hG hr hfit hWW hdiv
  refine callsIn_of_wp_marks Tryz.func18 rfl trivial ?_ rfl
  simp only [Tryz.ntmps18, List.size_toArray, List.length_cons, List.length_nil, Nat.reduceAdd, Nat.reduceSub, Array.replicate_succ, Array.replicate_zero, List.push_toArray, List.append_toArray, List.nil_append, List.cons_append]
  clear hT0
  gi_wp2_with fail
  rw [← hW0, ← HT0.out]
  clear hW0
  refine ⟨trivial, (callsIn_wide.2 HW.out).mono ?_⟩
  rintro e w1 ⟨rfl, hB1⟩
  have hB1w := HB0.out.trans (hB1.mono HB0.out.size)
  obtain ⟨S0, hS0⟩ : ∃ S0, S0 = w1.heap.size := ⟨_, rfl⟩
  obtain ⟨R, hR⟩ : ∃ R, R = S0 + 1 := ⟨_, rfl⟩
  obtain ⟨P0, hP0⟩ : ∃ P0, P0 = R + 1 := ⟨_, rfl⟩
  obtain ⟨Q0, hQ0⟩ : ∃ Q0, Q0 = P0 + 1 := ⟨_, rfl⟩
  obtain ⟨u, hu⟩ : ∃ u, cS (W : Nat) = u := ⟨_, rfl⟩
  rw [hu]
  obtain ⟨W4, hW4⟩ : ∃ W4, W4 = (((w1.alloc (.cells #[.string u] 22)).alloc (.cells (madeCells #[.string ⟨#[]⟩] n) 22)).alloc (.cells #[.slice (some ⟨w1.heap.size + 1, 0, none⟩) 0 n] 23)).alloc (.cells #[.string ⟨#[]⟩] 22) := ⟨_, rfl⟩
  have hS4 : RunSt w T0 S0 R P0 Q0 n t u 0 (runs T W wt 0) ⟨#[]⟩ W4 := by
    rw [hW4, hQ0, hP0, hR, hS0]
    refine RunSt.congr (c := fun _ => ⟨#[]⟩) ⟨?_, ?_, ?_, ?_, ?_, ?_⟩ (fun i _ => if_neg (by omega))
    · have h0 : Boxed w1 T0 22 (.string t) := (hB1.block _ HBT.out.lt).trans HBT.out
      exact (((h0.alloc _).alloc _).alloc _).alloc _
    · exact (((Boxed.new w1 22 (.string u)).alloc _).alloc _).alloc _
    · have := RowC.made (w1.alloc (.cells #[.string u] 22)) 22 (.string ⟨#[]⟩) n
      rw [World.size_alloc] at this
      exact (this.alloc _).alloc _
    · have := Boxed.new ((w1.alloc (.cells #[.string u] 22)).alloc (.cells (madeCells #[.string ⟨#[]⟩] n) 22)) 23 (.slice (some ⟨w1.heap.size + 1, 0, none⟩) 0 n)
      rw [World.size_alloc, World.size_alloc] at this
      exact this.alloc _
    · have := Boxed.new (((w1.alloc (.cells #[.string u] 22)).alloc (.cells (madeCells #[.string ⟨#[]⟩] n) 22)).alloc (.cells #[.slice (some ⟨w1.heap.size + 1, 0, none⟩) 0 n] 23)) 22 (.string ⟨#[]⟩)
      rw [World.size_alloc, World.size_alloc, World.size_alloc] at this
      exact this
    · have := hB1w.size
      exact (((hB1w.alloc this _).alloc (by rw [World.size_alloc]; omega) _).alloc (by rw [World.size_alloc, World.size_alloc]; omega) _).alloc (by rw [World.size_alloc, World.size_alloc, World.size_alloc]; omega) _
  have hTl : T0 < w1.heap.size := Nat.lt_of_lt_of_le HBT.out.lt hB1.size
  have hwT : w.heap.size ≤ T0 := by have := HT0.out; omega
  have hwS : w.heap.size ≤ S0 := by rw [hS0]; exact hB1w.size
  have HS4 := Lib.hid hS4
  have HW4 := Lib.hid hW4
  have HEQ := Lib.hid (show S0 = w1.heap.size ∧ R = S0 + 1 ∧ P0 = R + 1 ∧ Q0 = P0 + 1 from ⟨hS0, hR, hP0, hQ0⟩)
  have HU := Lib.hid hu
  clear hS4 hW4 hQ0 hP0 hR hS0 hu hB1 hB1w HW HB0 HBT HT0
  gi_wp2_with fail
  obtain ⟨hS0, hR, hP0, hQ0⟩ := HEQ.out
  rw [← HW4.out, ← hS0, ← hR, ← hP0, ← hQ0]
  have hd1 : T0 ≠ R := by omega
  have hd2 : S0 ≠ R := by omega
  have hd3 : P0 ≠ R := by omega
  have hd4 : Q0 ≠ R := by omega
  have hd5 : T0 ≠ P0 := by omega
  have hd6 : S0 ≠ P0 := by omega
  have hd7 : R ≠ P0 := by omega
  have hd8 : Q0 ≠ P0 := by omega
  have hd9 : T0 ≠ Q0 := by omega
  have hda : S0 ≠ Q0 := by omega
  have hdb : R ≠ Q0 := by omega
  have hdc : P0 ≠ Q0 := by omega
  have hwR : w.heap.size ≤ R := by omega
  have hwP : w.heap.size ≤ P0 := by omega
  have hwQ : w.heap.size ≤ Q0 := by omega
  clear hS0 hR hP0 hQ0 HEQ HW4 hTl
  refine ⟨trivial, (begin_in (f - 1) xa n cap _).mono ?_⟩
  rintro e w5 ⟨rfl, rfl⟩
  have hS5 := HS4.out.next ((Below.refl _ W4).alloc (Nat.le_refl _) (.cells #[.slice xa n cap] 23))
  have hbl := Boxed.new W4 23 (.slice xa n cap)
  have hTl : T0 < W4.heap.size := HS4.out.bt.lt
  have hSl : S0 < W4.heap.size := HS4.out.bs.lt
  have hRl : R < W4.heap.size := HS4.out.row.lt
  have hPl : P0 < W4.heap.size := HS4.out.bp.lt
  have hQl : Q0 < W4.heap.size := HS4.out.bq.lt
  have hwl := HS4.out.below.size
  have hsz : W4.heap.size ≤ (W4.alloc (.cells #[.slice xa n cap] 23)).heap.size := by simp
  clear HS4
  revert hS5 hbl hTl hSl hRl hPl hQl hwl hsz
  generalize W4.alloc (.cells #[.slice xa n cap] 23) = W5
  generalize W4.heap.size = bl
  intro hS5 hbl hTl hSl hRl hPl hQl hwl hsz
  gi_wp2_with fail
  refine wpIn_begin hf3 (bl := bl) rfl rfl n 1000 s HFT.out HGW.out HRS.out hbl
    (fun k W' => RunSt w T0 S0 R P0 Q0 n t u k (runs T W wt k) (cS (flo T W wt k)) W')
    ?hI (fun k A h => h.below) (by rw [show flo T W wt 0 = 0 by unfold flo; simp [Num.sumN], cS_zero]; exact hS5)
    (fun q => { tmps := #[.string t, .slice xa n cap, .pointer (some ⟨T0, 0, none⟩), undef, .slice none 0 0, .int .i64 0, .pointer (some ⟨S0, 0, none⟩), .int .i64 0, .pointer (some ⟨P0, 0, none⟩), .pointer (some ⟨Q0, 0, none⟩), q, undef, undef, undef,
        .tuple #[.string u, .int .i64 0], .string t, .slice xa n cap, .tuple #[.string u, .int .i64 0], .string u, .int .i64 0, .int .i64 0, .bool false, undef, .slice xa n cap, .int .i64 n, .slice (some ⟨R, 0, none⟩) 0 n, .slice xa n cap,
        .func (.func 120) #[] #[.pointer (some ⟨bl, 0, none⟩)], q, undef, undef, undef, undef, undef, undef, undef, undef, undef, undef, undef, undef, undef, undef, undef, undef, undef], defers := [] }) ?assign ?body ?done
  case hI =>
    rintro k A A' row h hg hr
    exact h.grown hg (fun r e => by have := hr r e; omega)
  case assign =>
    intro l q W' K hK
    gi_wp2
    exact hK
  case body =>
    rintro l k W' hk h
    have HS := Lib.hid h
    have hk1 : k ≤ n := by omega
    have hk2 : k + 1 ≤ n := hk
    have HM := Lib.hid (fun W' hW => mul_v (a := t) (b := cS (sumS s (k + 1))) (z := T * (Num.sumN wt (k + 1) : Nat)) W' hW HTS.out (HFT.out.sum hk2) HTT.out (vS_cS _) (by rw [HSS.out (k + 1) hk2]))
    have HD := Lib.hid (fun W' hW => div_v (a := cS (T * (Num.sumN wt (k + 1) : Nat))) (b := u) (q := flo T W wt (k + 1)) (r := Int.fmod (T * (Num.sumN wt (k + 1) : Nat)) (W : Nat)) W' hW (cap_len (HDV.out.mulT rfl hk2) (by have := HDV.out.c2; omega)) (by rw [← HU.out]; exact HDV.out.sizeW) (vS_cS _) (by rw [← HU.out]; exact vS_cS _) (by have := HDV.out.w0; omega) rfl rfl)
    have HSU := Lib.hid (fun W' hW => sub_v (a := cS (flo T W wt (k + 1))) (b := cS (flo T W wt k)) (z := Num.runP T W wt k) W' hW (cap_len (HDV.out.flo rfl hk2) (by have := HDV.out.c2; omega)) (cap_len (HDV.out.flo rfl hk1) (by have := HDV.out.c2; omega)) (vS_cS _) (vS_cS _) (runP_eq T W wt k).symm)
    unfold StrPost at HM HSU
    obtain ⟨ts, hts⟩ : ∃ ts, cS (sumS s (k + 1)) = ts := ⟨_, rfl⟩
    obtain ⟨sm, hsm⟩ : ∃ x, cS (T * (Num.sumN wt (k + 1) : Nat)) = x := ⟨_, rfl⟩
    obtain ⟨sf, hsf⟩ : ∃ x, cS (flo T W wt (k + 1)) = x := ⟨_, rfl⟩
    obtain ⟨sr, hsr⟩ : ∃ x, cS (Int.fmod (T * (Num.sumN wt (k + 1) : Nat)) (W : Nat)) = x := ⟨_, rfl⟩
    obtain ⟨sq, hsq⟩ : ∃ x, cS (flo T W wt k) = x := ⟨_, rfl⟩
    obtain ⟨sp, hsp⟩ : ∃ x, cS (Num.runP T W wt k) = x := ⟨_, rfl⟩
    have HSF := Lib.hid hsf
    have HSP := Lib.hid hsp
    rw [hts, hsm] at HM
    rw [hsm, hsf, hsr] at HD
    rw [hsf, hsq, hsp] at HSU
    rw [hsq] at HS
    rw [hts]
    have c1 := HS.out.bt.cell
    have c2 := HS.out.bs.cell
    clear h hts hsm hsf hsr hsq hsp hS5 hbl
    gi_wp2_with fail
    refine wpIn_region_heldR (S := fun w' => w'.cell? ⟨T0, 0, none⟩ = some (.string t) ∧ w'.cell? ⟨S0, 0, none⟩ = some (.string u)) (plain_ops (by kernel_rfl)) (by rintro ⟨_, _, hh⟩; exact Exit.noConfusion (And.left hh)) (by kernel_rfl) (by (try dsimp only); go_keep) (fun hHeld => ?_)
    refine wpAnyH_take (i := 0) (oi := { dst := some 30, op := Op.load 22 (Operand.tmp 2), type := 22, pos := "allocate.go:103", after := #[], guard := none }) (v := ?_) rfl (by kernel_rfl) (by kernel_rfl) (by kernel_rfl) (fun _ _ _ h => h) (Or.inl ⟨by rfl, ?_⟩) (by assumption) ?_
    rotate_left
    focus ((intro w hSw; (try dsimp only at hSw); go_simp); (try with_reducible rfl))
    try simp only [Act.put, List.setIfInBounds_toArray, List.set_cons_zero, List.set_cons_succ]
    refine wpAnyH_take (i := 1) (oi := { dst := some 31, op := Op.move (Operand.tmp 10), type := 22, pos := "allocate.go:103", after := #[], guard := none }) (v := ?_) rfl (by kernel_rfl) (by kernel_rfl) (by kernel_rfl) (fun _ _ _ h => h) (Or.inl ⟨by rfl, ?_⟩) (by assumption) ?_
    rotate_left
    focus ((intro w hSw; (try dsimp only at hSw); go_simp); (try with_reducible rfl))
    try simp only [Act.put, List.setIfInBounds_toArray, List.set_cons_zero, List.set_cons_succ]
    refine wpAnyH_take (i := 3) (oi := { dst := some 33, op := Op.load 22 (Operand.tmp 6), type := 22, pos := "allocate.go:103", after := #[], guard := none }) (v := ?_) rfl (by kernel_rfl) (by kernel_rfl) (by kernel_rfl) (fun _ _ _ h => h) (Or.inl ⟨by rfl, ?_⟩) (by assumption) ?_
    rotate_left
    focus ((intro w hSw; (try dsimp only at hSw); go_simp); (try with_reducible rfl))
    try simp only [Act.put, List.setIfInBounds_toArray, List.set_cons_zero, List.set_cons_succ]
    refine wpAnyH_ready (rs := [2]) (by kernel_rfl) (by simp) ?_
    refine AllReadyH.cons (o := { dst := some 32, op := Op.call { callee := Callee.value (Operand.func 36), args := #[Operand.tmp 30, Operand.tmp 31], argTypes := #[22, 22] }, type := 22, pos := "allocate.go:103", after := #[{ on := 0, ground := Ground.data }, { on := 1, ground := Ground.data }], guard := none }) rfl (fun K hK => ?_) AllReadyH.nil
    clear hHeld
    go_simp
    refine (HM.out _ (HGW.out.below (HS.out.drewN 1).below)).mono ?_
    rintro _ WX ⟨rfl, hB1⟩
    have HSX := Lib.hid ((HS.out.drewN 1).next hB1)
    have HBX := Lib.hid hB1
    have cX1 := HSX.out.bt.cell
    have cX2 := HSX.out.bs.cell
    clear hB1
    go_wp2_with fail
    refine hK.out _ _ (by (try dsimp only); go_keep) (fun hHeld => ?_)
    clear hK K
    try simp only [Act.put, List.setIfInBounds_toArray, List.set_cons_zero, List.set_cons_succ]
    refine wpAnyH_ready (rs := [4]) (by kernel_rfl) (by simp) ?_
    refine AllReadyH.cons (o := { dst := some 34, op := Op.call { callee := Callee.value (Operand.func 66), args := #[Operand.tmp 32, Operand.tmp 33], argTypes := #[22, 22] }, type := 40, pos := "allocate.go:103", after := #[{ on := 2, ground := Ground.data }, { on := 3, ground := Ground.data }, { on := 2, ground := Ground.chain }], guard := none }) rfl (fun K hK => ?_) AllReadyH.nil
    clear hHeld
    go_simp
    refine (HD.out _ (HGW.out.below HSX.out.below)).mono ?_
    rintro _ WY ⟨rfl, hB1⟩
    have HSY := Lib.hid (HSX.out.next hB1)
    have HBY := Lib.hid hB1
    have cY1 := HSY.out.bt.cell
    have cY2 := HSY.out.bs.cell
    clear hB1
    go_wp2_with fail
    refine hK.out _ _ (by (try dsimp only); go_keep) (fun hHeld => ?_)
    clear hK K
    try simp only [Act.put, List.setIfInBounds_toArray, List.set_cons_zero, List.set_cons_succ]
    refine wpAnyH_take (i := 5) (oi := { dst := some 29, op := Op.move (Operand.tmp 34), type := 40, pos := "allocate.go:103", after := #[{ on := 4, ground := Ground.data }], guard := none }) (v := ?_) rfl (by kernel_rfl) (by kernel_rfl) (by kernel_rfl) (fun _ _ _ h => h) (Or.inl ⟨by rfl, ?_⟩) (by assumption) ?_
    rotate_left
    focus ((intro w hSw; (try dsimp only at hSw); go_simp); (try with_reducible rfl))
    try simp only [Act.put, List.setIfInBounds_toArray, List.set_cons_zero, List.set_cons_succ]
    refine wpAnyH_take (i := 6) (oi := { dst := some 35, op := Op.extract (Operand.tmp 29) 0, type := 22, pos := "allocate.go:103", after := #[{ on := 5, ground := Ground.data }], guard := none }) (v := ?_) rfl (by kernel_rfl) (by kernel_rfl) (by kernel_rfl) (fun _ _ _ h => h) (Or.inl ⟨by rfl, ?_⟩) (by assumption) ?_
    rotate_left
    focus ((intro w hSw; (try dsimp only at hSw); go_simp); (try with_reducible rfl))
    try simp only [Act.put, List.setIfInBounds_toArray, List.set_cons_zero, List.set_cons_succ]
    refine wpAnyH_take (i := 7) (oi := { dst := some 36, op := Op.extract (Operand.tmp 29) 1, type := 22, pos := "allocate.go:103", after := #[{ on := 5, ground := Ground.data }, { on := 9, ground := Ground.gcOnly Departure.lateStores }], guard := none }) (v := ?_) rfl (by kernel_rfl) (by kernel_rfl) (by kernel_rfl) (fun _ _ _ h => h) (Or.inl ⟨by rfl, ?_⟩) (by assumption) ?_
    rotate_left
    focus ((intro w hSw; (try dsimp only at hSw); go_simp); (try with_reducible rfl))
    try simp only [Act.put, List.setIfInBounds_toArray, List.set_cons_zero, List.set_cons_succ]
    refine wpAnyH_take (i := 8) (oi := { dst := some 37, op := Op.extract (Operand.tmp 29) 2, type := 26, pos := "allocate.go:103", after := #[{ on := 5, ground := Ground.data }, { on := 10, ground := Ground.gcOnly Departure.lateStores }], guard := none }) (v := ?_) rfl (by kernel_rfl) (by kernel_rfl) (by kernel_rfl) (fun _ _ _ h => h) (Or.inl ⟨by rfl, ?_⟩) (by assumption) ?_
    rotate_left
    focus ((intro w hSw; (try dsimp only at hSw); go_simp); (try with_reducible rfl))
    try simp only [Act.put, List.setIfInBounds_toArray, List.set_cons_zero, List.set_cons_succ]
    refine wpAnyH_take (i := 9) (oi := { dst := some 11, op := Op.assign (Operand.tmp 35), type := 22, pos := "allocate.go:103", after := #[{ on := 6, ground := Ground.data }, { on := 4, ground := Ground.chain }, { on := 0, ground := Ground.phase }, { on := 1, ground := Ground.phase }, { on := 2, ground := Ground.phase }, { on := 3, ground := Ground.phase }, { on := 4, ground := Ground.phase }, { on := 5, ground := Ground.phase }, { on := 6, ground := Ground.phase }, { on := 7, ground := Ground.textOnly Departure.lateStores }, { on := 8, ground := Ground.textOnly Departure.lateStores }], guard := none }) (v := ?_) rfl (by kernel_rfl) (by kernel_rfl) (by kernel_rfl) (fun _ _ _ h => h) (Or.inl ⟨by rfl, ?_⟩) (by assumption) ?_
    rotate_left
    focus ((intro w hSw; (try dsimp only at hSw); go_simp); (try with_reducible rfl))
    try simp only [Act.put, List.setIfInBounds_toArray, List.set_cons_zero, List.set_cons_succ]
    refine wpAnyH_take (i := 10) (oi := { dst := some 12, op := Op.assign (Operand.tmp 36), type := 22, pos := "allocate.go:103", after := #[{ on := 7, ground := Ground.data }, { on := 9, ground := Ground.chain }, { on := 0, ground := Ground.phase }, { on := 1, ground := Ground.phase }, { on := 2, ground := Ground.phase }, { on := 3, ground := Ground.phase }, { on := 4, ground := Ground.phase }, { on := 5, ground := Ground.phase }, { on := 6, ground := Ground.phase }, { on := 7, ground := Ground.phase }, { on := 8, ground := Ground.textOnly Departure.lateStores }, { on := 9, ground := Ground.phase }], guard := none }) (v := ?_) rfl (by kernel_rfl) (by kernel_rfl) (by kernel_rfl) (fun _ _ _ h => h) (Or.inl ⟨by rfl, ?_⟩) (by assumption) ?_
    rotate_left
    focus ((intro w hSw; (try dsimp only at hSw); go_simp); (try with_reducible rfl))
    try simp only [Act.put, List.setIfInBounds_toArray, List.set_cons_zero, List.set_cons_succ]
    refine wpAnyH_take (i := 11) (oi := { dst := some 13, op := Op.assign (Operand.tmp 37), type := 26, pos := "allocate.go:103", after := #[{ on := 8, ground := Ground.data }, { on := 10, ground := Ground.chain }, { on := 0, ground := Ground.phase }, { on := 1, ground := Ground.phase }, { on := 2, ground := Ground.phase }, { on := 3, ground := Ground.phase }, { on := 4, ground := Ground.phase }, { on := 5, ground := Ground.phase }, { on := 6, ground := Ground.phase }, { on := 7, ground := Ground.phase }, { on := 8, ground := Ground.phase }, { on := 9, ground := Ground.phase }, { on := 10, ground := Ground.phase }], guard := none }) (v := ?_) rfl (by kernel_rfl) (by kernel_rfl) (by kernel_rfl) (fun _ _ _ h => h) (Or.inl ⟨by rfl, ?_⟩) (by assumption) ?_
    rotate_left
    focus ((intro w hSw; (try dsimp only at hSw); go_simp); (try with_reducible rfl))
    try simp only [Act.put, List.setIfInBounds_toArray, List.set_cons_zero, List.set_cons_succ]
    refine wpAnyH_done (by kernel_rfl) ?_ _
    clear hHeld
    have cY3 := HSY.out.bp.cell
    have cY4 := HSY.out.bq.cell
    clear c1 c2 cX1 cX2 cY1 cY2 HSX
    gi_wp2_with fail
    refine wpIn_region_heldR (S := fun _ => True) (plain_ops (by kernel_rfl)) (by rintro ⟨_, _, hh⟩; exact Exit.noConfusion (And.left hh)) (by kernel_rfl) (by exact True.intro) (fun hHeld => ?_)
    refine wpAnyH_take (i := 1) (oi := { dst := some 39, op := Op.move (Operand.tmp 11), type := 22, pos := "allocate.go:104", after := #[], guard := none }) (v := ?_) rfl (by kernel_rfl) (by kernel_rfl) (by kernel_rfl) (fun _ _ _ h => h) (Or.inl ⟨by rfl, ?_⟩) (by assumption) ?_
    rotate_left
    focus ((intro w hSw; (try dsimp only at hSw); go_simp); (try with_reducible rfl))
    try simp only [Act.put, List.setIfInBounds_toArray, List.set_cons_zero, List.set_cons_succ]
    refine wpAnyH_ready (rs := [0, 2]) (by kernel_rfl) (by simp) ?_
    refine AllReadyH.cons (o := { dst := some 38, op := Op.load 23 (Operand.tmp 8), type := 23, pos := "allocate.go:104", after := #[], guard := none }) rfl (fun K hK => ?_) (AllReadyH.cons (o := { dst := some 40, op := Op.load 22 (Operand.tmp 9), type := 22, pos := "allocate.go:104", after := #[], guard := none }) rfl (fun K hK => ?_) AllReadyH.nil)
    · clear hHeld
      go_simp
      refine hK.out _ _ (by exact True.intro) (fun hHeld => ?_)
      clear hK K
      try simp only [Act.put, List.setIfInBounds_toArray, List.set_cons_zero, List.set_cons_succ]
      refine wpAnyH_ready (rs := [2]) (by kernel_rfl) (by simp) ?_
      refine AllReadyH.cons (o := { dst := some 40, op := Op.load 22 (Operand.tmp 9), type := 22, pos := "allocate.go:104", after := #[], guard := none }) rfl (fun K hK => ?_) AllReadyH.nil
      clear hHeld
      go_simp
      refine hK.out _ _ (by exact True.intro) (fun hHeld => ?_)
      clear hK K
      try simp only [Act.put, List.setIfInBounds_toArray, List.set_cons_zero, List.set_cons_succ]
      refine wpAnyH_ready (rs := [3]) (by kernel_rfl) (by simp) ?_
      refine AllReadyH.cons (o := { dst := some 41, op := Op.call { callee := Callee.value (Operand.func 35), args := #[Operand.tmp 39, Operand.tmp 40], argTypes := #[22, 22] }, type := 22, pos := "allocate.go:104", after := #[{ on := 1, ground := Ground.data }, { on := 2, ground := Ground.data }], guard := none }) rfl (fun K hK => ?_) AllReadyH.nil
      clear hHeld
      go_simp
      refine (HSU.out _ (HGW.out.below (HSY.out.drewN 1).below)).mono ?_
      rintro _ WZ ⟨rfl, hB1⟩
      have HSZ := Lib.hid ((HSY.out.drewN 1).next hB1)
      have HBZ := Lib.hid hB1
      have cZ3 := HSZ.out.bp.cell
      clear hB1
      go_wp2_with fail
      refine hK.out _ _ (by exact True.intro) (fun hHeld => ?_)
      clear hK K
      try simp only [Act.put, List.setIfInBounds_toArray, List.set_cons_zero, List.set_cons_succ]
      refine wpAnyH_ready (rs := [4]) (by kernel_rfl) (by simp) ?_
      refine AllReadyH.cons (o := { dst := some 42, op := Op.buildSlice 23 1 #[(0, Operand.tmp 41)], type := 23, pos := "allocate.go:104", after := #[{ on := 3, ground := Ground.data }], guard := none }) rfl (fun K hK => ?_) AllReadyH.nil
      clear hHeld
      go_simp
      obtain ⟨WU, hWU⟩ : ∃ WU, WU = WZ.alloc (.cells #[.string sp] 22) := ⟨_, rfl⟩
      have HS2 := Lib.hid (show RunSt w T0 S0 R P0 Q0 n t u k (runs T W wt k) sq WU from by rw [hWU]; exact HSZ.out.next ((Below.refl _ _).alloc (Nat.le_refl _) _))
      have hU : WU.cell? ⟨WZ.heap.size, 0, none⟩ = some (.string sp) := by rw [hWU]; exact (Boxed.new WZ 22 (.string sp)).cell
      have HBU := Lib.hid (show Below WZ.heap.size WZ WU from by rw [hWU]; exact (Below.refl _ _).alloc (Nat.le_refl _) _)
      rw [← hWU]
      clear hWU
      have cU3 := HS2.out.row.cell hk
      have fU3 := HS2.out.row.frozen k
      have cU4 := HS2.out.bp.cell
      refine hK.out _ _ (by exact True.intro) (fun hHeld => ?_)
      clear hK K
      try simp only [Act.put, List.setIfInBounds_toArray, List.set_cons_zero, List.set_cons_succ]
      refine wpAnyH_ready (rs := [5]) (by kernel_rfl) (by simp) ?_
      refine AllReadyH.cons (o := { dst := some 43, op := Op.call { callee := Callee.builtin Builtin.append, args := #[Operand.tmp 38, Operand.tmp 42], argTypes := #[23, 23] }, type := 23, pos := "allocate.go:104", after := #[{ on := 0, ground := Ground.data }, { on := 4, ground := Ground.data }, { on := 3, ground := Ground.chain }], guard := none }) rfl (fun K hK => ?_) AllReadyH.nil
      clear hHeld
      go_simp
      have HS3 := Lib.hid ((HS2.out.add (c' := runs T W wt (k + 1)) ((HS2.out.row.set k (.string sp)).congr fun i _ => by rw [runs_next, HSP.out]; unfold upd; split <;> rfl) (grown_set (grown_refl WU (some R))) hwR hd1 hd2 hd3 hd4))
      have c3 := HS3.out.bp.cell
      have f3 := HS3.out.bp.frozen
      refine hK.out _ _ (by exact True.intro) (fun hHeld => ?_)
      clear hK K
      try simp only [Act.put, List.setIfInBounds_toArray, List.set_cons_zero, List.set_cons_succ]
      refine wpAnyH_ready (rs := [6]) (by kernel_rfl) (by simp) ?_
      refine AllReadyH.cons (o := { dst := none, op := Op.store 23 (Operand.tmp 8) (Operand.tmp 43), type := 0, pos := "allocate.go:104", after := #[{ on := 5, ground := Ground.data }, { on := 5, ground := Ground.chain }, { on := 0, ground := Ground.phase }, { on := 1, ground := Ground.phase }, { on := 2, ground := Ground.phase }, { on := 3, ground := Ground.phase }, { on := 4, ground := Ground.phase }, { on := 5, ground := Ground.phase }], guard := none }) rfl (fun K hK => ?_) AllReadyH.nil
      clear hHeld
      go_simp
      have HS4 := Lib.hid (HS3.out.setP hwP hd5 hd6 hd7 hd8 (k + 1))
      refine hK.out _ _ (by exact True.intro) (fun hHeld => ?_)
      clear hK K
      try simp only [Act.put, List.setIfInBounds_toArray, List.set_cons_zero, List.set_cons_succ]
      refine wpAnyH_done (by kernel_rfl) ?_ _
      clear hHeld
      have c4 := HS4.out.bq.cell
      have f4 := HS4.out.bq.frozen
      have HS5 := Lib.hid (HS4.out.setQ hwQ hd9 hda hdb hdc sf)
      clear cY3 cY4 cZ3 cU3 cU4 fU3 c3 f3 hU
      gi_wp2_with fail
      refine ⟨by rw [HSF.out]; exact HS5.out, fun j hj1 hj2 => ?_⟩
      have s1 : W'.heap.size ≤ WX.heap.size := HBX.out.size
      have s2 : WX.heap.size ≤ WY.heap.size := HBY.out.size
      have s3 : WY.heap.size ≤ WZ.heap.size := HBZ.out.size
      rw [Below.heap_setCell _ _ _ j (by simp only; omega), Below.heap_setCell _ _ _ j (by simp only; omega), Below.heap_setCell _ _ _ j (by simp only; omega)]
      exact (HBU.out.block j (by omega)).trans ((HBZ.out.block j (show j < WY.heap.size by omega)).trans ((HBY.out.block j (by omega)).trans (HBX.out.block j hj2)))
    · clear hHeld
      go_simp
      refine hK.out _ _ (by exact True.intro) (fun hHeld => ?_)
      clear hK K
      try simp only [Act.put, List.setIfInBounds_toArray, List.set_cons_zero, List.set_cons_succ]
      refine wpAnyH_ready (rs := [0, 3]) (by kernel_rfl) (by simp) ?_
      refine AllReadyH.cons (o := { dst := some 38, op := Op.load 23 (Operand.tmp 8), type := 23, pos := "allocate.go:104", after := #[], guard := none }) rfl (fun K hK => ?_) (AllReadyH.cons (o := { dst := some 41, op := Op.call { callee := Callee.value (Operand.func 35), args := #[Operand.tmp 39, Operand.tmp 40], argTypes := #[22, 22] }, type := 22, pos := "allocate.go:104", after := #[{ on := 1, ground := Ground.data }, { on := 2, ground := Ground.data }], guard := none }) rfl (fun K hK => ?_) AllReadyH.nil)
      · clear hHeld
        go_simp
        refine hK.out _ _ (by exact True.intro) (fun hHeld => ?_)
        clear hK K
        try simp only [Act.put, List.setIfInBounds_toArray, List.set_cons_zero, List.set_cons_succ]
        refine wpAnyH_ready (rs := [3]) (by kernel_rfl) (by simp) ?_
        refine AllReadyH.cons (o := { dst := some 41, op := Op.call { callee := Callee.value (Operand.func 35), args := #[Operand.tmp 39, Operand.tmp 40], argTypes := #[22, 22] }, type := 22, pos := "allocate.go:104", after := #[{ on := 1, ground := Ground.data }, { on := 2, ground := Ground.data }], guard := none }) rfl (fun K hK => ?_) AllReadyH.nil
        clear hHeld
        go_simp
        refine (HSU.out _ (HGW.out.below (HSY.out.drewN 1).below)).mono ?_
        rintro _ WZ ⟨rfl, hB1⟩
        have HSZ := Lib.hid ((HSY.out.drewN 1).next hB1)
        have HBZ := Lib.hid hB1
        have cZ3 := HSZ.out.bp.cell
        clear hB1
        go_wp2_with fail
        refine hK.out _ _ (by exact True.intro) (fun hHeld => ?_)
        clear hK K
        try simp only [Act.put, List.setIfInBounds_toArray, List.set_cons_zero, List.set_cons_succ]
        refine wpAnyH_ready (rs := [4]) (by kernel_rfl) (by simp) ?_
        refine AllReadyH.cons (o := { dst := some 42, op := Op.buildSlice 23 1 #[(0, Operand.tmp 41)], type := 23, pos := "allocate.go:104", after := #[{ on := 3, ground := Ground.data }], guard := none }) rfl (fun K hK => ?_) AllReadyH.nil
        clear hHeld
        go_simp
        obtain ⟨WU, hWU⟩ : ∃ WU, WU = WZ.alloc (.cells #[.string sp] 22) := ⟨_, rfl⟩
        have HS2 := Lib.hid (show RunSt w T0 S0 R P0 Q0 n t u k (runs T W wt k) sq WU from by rw [hWU]; exact HSZ.out.next ((Below.refl _ _).alloc (Nat.le_refl _) _))
        have hU : WU.cell? ⟨WZ.heap.size, 0, none⟩ = some (.string sp) := by rw [hWU]; exact (Boxed.new WZ 22 (.string sp)).cell
        have HBU := Lib.hid (show Below WZ.heap.size WZ WU from by rw [hWU]; exact (Below.refl _ _).alloc (Nat.le_refl _) _)
        rw [← hWU]
        clear hWU
        have cU3 := HS2.out.row.cell hk
        have fU3 := HS2.out.row.frozen k
        have cU4 := HS2.out.bp.cell
        refine hK.out _ _ (by exact True.intro) (fun hHeld => ?_)
        clear hK K
        try simp only [Act.put, List.setIfInBounds_toArray, List.set_cons_zero, List.set_cons_succ]
        refine wpAnyH_ready (rs := [5]) (by kernel_rfl) (by simp) ?_
        refine AllReadyH.cons (o := { dst := some 43, op := Op.call { callee := Callee.builtin Builtin.append, args := #[Operand.tmp 38, Operand.tmp 42], argTypes := #[23, 23] }, type := 23, pos := "allocate.go:104", after := #[{ on := 0, ground := Ground.data }, { on := 4, ground := Ground.data }, { on := 3, ground := Ground.chain }], guard := none }) rfl (fun K hK => ?_) AllReadyH.nil
        clear hHeld
        go_simp
        have HS3 := Lib.hid ((HS2.out.add (c' := runs T W wt (k + 1)) ((HS2.out.row.set k (.string sp)).congr fun i _ => by rw [runs_next, HSP.out]; unfold upd; split <;> rfl) (grown_set (grown_refl WU (some R))) hwR hd1 hd2 hd3 hd4))
        have c3 := HS3.out.bp.cell
        have f3 := HS3.out.bp.frozen
        refine hK.out _ _ (by exact True.intro) (fun hHeld => ?_)
        clear hK K
        try simp only [Act.put, List.setIfInBounds_toArray, List.set_cons_zero, List.set_cons_succ]
        refine wpAnyH_ready (rs := [6]) (by kernel_rfl) (by simp) ?_
        refine AllReadyH.cons (o := { dst := none, op := Op.store 23 (Operand.tmp 8) (Operand.tmp 43), type := 0, pos := "allocate.go:104", after := #[{ on := 5, ground := Ground.data }, { on := 5, ground := Ground.chain }, { on := 0, ground := Ground.phase }, { on := 1, ground := Ground.phase }, { on := 2, ground := Ground.phase }, { on := 3, ground := Ground.phase }, { on := 4, ground := Ground.phase }, { on := 5, ground := Ground.phase }], guard := none }) rfl (fun K hK => ?_) AllReadyH.nil
        clear hHeld
        go_simp
        have HS4 := Lib.hid (HS3.out.setP hwP hd5 hd6 hd7 hd8 (k + 1))
        refine hK.out _ _ (by exact True.intro) (fun hHeld => ?_)
        clear hK K
        try simp only [Act.put, List.setIfInBounds_toArray, List.set_cons_zero, List.set_cons_succ]
        refine wpAnyH_done (by kernel_rfl) ?_ _
        clear hHeld
        have c4 := HS4.out.bq.cell
        have f4 := HS4.out.bq.frozen
        have HS5 := Lib.hid (HS4.out.setQ hwQ hd9 hda hdb hdc sf)
        clear cY3 cY4 cZ3 cU3 cU4 fU3 c3 f3 hU
        gi_wp2_with fail
        refine ⟨by rw [HSF.out]; exact HS5.out, fun j hj1 hj2 => ?_⟩
        have s1 : W'.heap.size ≤ WX.heap.size := HBX.out.size
        have s2 : WX.heap.size ≤ WY.heap.size := HBY.out.size
        have s3 : WY.heap.size ≤ WZ.heap.size := HBZ.out.size
        rw [Below.heap_setCell _ _ _ j (by simp only; omega), Below.heap_setCell _ _ _ j (by simp only; omega), Below.heap_setCell _ _ _ j (by simp only; omega)]
        exact (HBU.out.block j (by omega)).trans ((HBZ.out.block j (show j < WY.heap.size by omega)).trans ((HBY.out.block j (by omega)).trans (HBX.out.block j hj2)))
      · clear hHeld
        go_simp
        refine (HSU.out _ (HGW.out.below (HSY.out.drewN 1).below)).mono ?_
        rintro _ WZ ⟨rfl, hB1⟩
        have HSZ := Lib.hid ((HSY.out.drewN 1).next hB1)
        have HBZ := Lib.hid hB1
        have cZ3 := HSZ.out.bp.cell
        clear hB1
        go_wp2_with fail
        refine hK.out _ _ (by exact True.intro) (fun hHeld => ?_)
        clear hK K
        try simp only [Act.put, List.setIfInBounds_toArray, List.set_cons_zero, List.set_cons_succ]
        refine wpAnyH_ready (rs := [0, 4]) (by kernel_rfl) (by simp) ?_
        refine AllReadyH.cons (o := { dst := some 38, op := Op.load 23 (Operand.tmp 8), type := 23, pos := "allocate.go:104", after := #[], guard := none }) rfl (fun K hK => ?_) (AllReadyH.cons (o := { dst := some 42, op := Op.buildSlice 23 1 #[(0, Operand.tmp 41)], type := 23, pos := "allocate.go:104", after := #[{ on := 3, ground := Ground.data }], guard := none }) rfl (fun K hK => ?_) AllReadyH.nil)
        · clear hHeld
          go_simp
          refine hK.out _ _ (by exact True.intro) (fun hHeld => ?_)
          clear hK K
          try simp only [Act.put, List.setIfInBounds_toArray, List.set_cons_zero, List.set_cons_succ]
          refine wpAnyH_ready (rs := [4]) (by kernel_rfl) (by simp) ?_
          refine AllReadyH.cons (o := { dst := some 42, op := Op.buildSlice 23 1 #[(0, Operand.tmp 41)], type := 23, pos := "allocate.go:104", after := #[{ on := 3, ground := Ground.data }], guard := none }) rfl (fun K hK => ?_) AllReadyH.nil
          clear hHeld
          go_simp
          obtain ⟨WU, hWU⟩ : ∃ WU, WU = WZ.alloc (.cells #[.string sp] 22) := ⟨_, rfl⟩
          have HS2 := Lib.hid (show RunSt w T0 S0 R P0 Q0 n t u k (runs T W wt k) sq WU from by rw [hWU]; exact HSZ.out.next ((Below.refl _ _).alloc (Nat.le_refl _) _))
          have hU : WU.cell? ⟨WZ.heap.size, 0, none⟩ = some (.string sp) := by rw [hWU]; exact (Boxed.new WZ 22 (.string sp)).cell
          have HBU := Lib.hid (show Below WZ.heap.size WZ WU from by rw [hWU]; exact (Below.refl _ _).alloc (Nat.le_refl _) _)
          rw [← hWU]
          clear hWU
          have cU3 := HS2.out.row.cell hk
          have fU3 := HS2.out.row.frozen k
          have cU4 := HS2.out.bp.cell
          refine hK.out _ _ (by exact True.intro) (fun hHeld => ?_)
          clear hK K
          try simp only [Act.put, List.setIfInBounds_toArray, List.set_cons_zero, List.set_cons_succ]
          refine wpAnyH_ready (rs := [5]) (by kernel_rfl) (by simp) ?_
          refine AllReadyH.cons (o := { dst := some 43, op := Op.call { callee := Callee.builtin Builtin.append, args := #[Operand.tmp 38, Operand.tmp 42], argTypes := #[23, 23] }, type := 23, pos := "allocate.go:104", after := #[{ on := 0, ground := Ground.data }, { on := 4, ground := Ground.data }, { on := 3, ground := Ground.chain }], guard := none }) rfl (fun K hK => ?_) AllReadyH.nil
          clear hHeld
          go_simp
          have HS3 := Lib.hid ((HS2.out.add (c' := runs T W wt (k + 1)) ((HS2.out.row.set k (.string sp)).congr fun i _ => by rw [runs_next, HSP.out]; unfold upd; split <;> rfl) (grown_set (grown_refl WU (some R))) hwR hd1 hd2 hd3 hd4))
          have c3 := HS3.out.bp.cell
          have f3 := HS3.out.bp.frozen
          refine hK.out _ _ (by exact True.intro) (fun hHeld => ?_)
          clear hK K
          try simp only [Act.put, List.setIfInBounds_toArray, List.set_cons_zero, List.set_cons_succ]
          refine wpAnyH_ready (rs := [6]) (by kernel_rfl) (by simp) ?_
          refine AllReadyH.cons (o := { dst := none, op := Op.store 23 (Operand.tmp 8) (Operand.tmp 43), type := 0, pos := "allocate.go:104", after := #[{ on := 5, ground := Ground.data }, { on := 5, ground := Ground.chain }, { on := 0, ground := Ground.phase }, { on := 1, ground := Ground.phase }, { on := 2, ground := Ground.phase }, { on := 3, ground := Ground.phase }, { on := 4, ground := Ground.phase }, { on := 5, ground := Ground.phase }], guard := none }) rfl (fun K hK => ?_) AllReadyH.nil
          clear hHeld
          go_simp
          have HS4 := Lib.hid (HS3.out.setP hwP hd5 hd6 hd7 hd8 (k + 1))
          refine hK.out _ _ (by exact True.intro) (fun hHeld => ?_)
          clear hK K
          try simp only [Act.put, List.setIfInBounds_toArray, List.set_cons_zero, List.set_cons_succ]
          refine wpAnyH_done (by kernel_rfl) ?_ _
          clear hHeld
          have c4 := HS4.out.bq.cell
          have f4 := HS4.out.bq.frozen
          have HS5 := Lib.hid (HS4.out.setQ hwQ hd9 hda hdb hdc sf)
          clear cY3 cY4 cZ3 cU3 cU4 fU3 c3 f3 hU
          gi_wp2_with fail
          refine ⟨by rw [HSF.out]; exact HS5.out, fun j hj1 hj2 => ?_⟩
          have s1 : W'.heap.size ≤ WX.heap.size := HBX.out.size
          have s2 : WX.heap.size ≤ WY.heap.size := HBY.out.size
          have s3 : WY.heap.size ≤ WZ.heap.size := HBZ.out.size
          rw [Below.heap_setCell _ _ _ j (by simp only; omega), Below.heap_setCell _ _ _ j (by simp only; omega), Below.heap_setCell _ _ _ j (by simp only; omega)]
          exact (HBU.out.block j (by omega)).trans ((HBZ.out.block j (show j < WY.heap.size by omega)).trans ((HBY.out.block j (by omega)).trans (HBX.out.block j hj2)))
        · clear hHeld
          go_simp
          obtain ⟨WU, hWU⟩ : ∃ WU, WU = WZ.alloc (.cells #[.string sp] 22) := ⟨_, rfl⟩
          have HS2 := Lib.hid (show RunSt w T0 S0 R P0 Q0 n t u k (runs T W wt k) sq WU from by rw [hWU]; exact HSZ.out.next ((Below.refl _ _).alloc (Nat.le_refl _) _))
          have hU : WU.cell? ⟨WZ.heap.size, 0, none⟩ = some (.string sp) := by rw [hWU]; exact (Boxed.new WZ 22 (.string sp)).cell
          have HBU := Lib.hid (show Below WZ.heap.size WZ WU from by rw [hWU]; exact (Below.refl _ _).alloc (Nat.le_refl _) _)
          rw [← hWU]
          clear hWU
          have cU3 := HS2.out.row.cell hk
          have fU3 := HS2.out.row.frozen k
          have cU4 := HS2.out.bp.cell
          refine hK.out _ _ (by exact True.intro) (fun hHeld => ?_)
          clear hK K
          try simp only [Act.put, List.setIfInBounds_toArray, List.set_cons_zero, List.set_cons_succ]
          refine wpAnyH_ready (rs := [0]) (by kernel_rfl) (by simp) ?_
          refine AllReadyH.cons (o := { dst := some 38, op := Op.load 23 (Operand.tmp 8), type := 23, pos := "allocate.go:104", after := #[], guard := none }) rfl (fun K hK => ?_) AllReadyH.nil
          clear hHeld
          go_simp
          refine hK.out _ _ (by exact True.intro) (fun hHeld => ?_)
          clear hK K
          try simp only [Act.put, List.setIfInBounds_toArray, List.set_cons_zero, List.set_cons_succ]
          refine wpAnyH_ready (rs := [5]) (by kernel_rfl) (by simp) ?_
          refine AllReadyH.cons (o := { dst := some 43, op := Op.call { callee := Callee.builtin Builtin.append, args := #[Operand.tmp 38, Operand.tmp 42], argTypes := #[23, 23] }, type := 23, pos := "allocate.go:104", after := #[{ on := 0, ground := Ground.data }, { on := 4, ground := Ground.data }, { on := 3, ground := Ground.chain }], guard := none }) rfl (fun K hK => ?_) AllReadyH.nil
          clear hHeld
          go_simp
          have HS3 := Lib.hid ((HS2.out.add (c' := runs T W wt (k + 1)) ((HS2.out.row.set k (.string sp)).congr fun i _ => by rw [runs_next, HSP.out]; unfold upd; split <;> rfl) (grown_set (grown_refl WU (some R))) hwR hd1 hd2 hd3 hd4))
          have c3 := HS3.out.bp.cell
          have f3 := HS3.out.bp.frozen
          refine hK.out _ _ (by exact True.intro) (fun hHeld => ?_)
          clear hK K
          try simp only [Act.put, List.setIfInBounds_toArray, List.set_cons_zero, List.set_cons_succ]
          refine wpAnyH_ready (rs := [6]) (by kernel_rfl) (by simp) ?_
          refine AllReadyH.cons (o := { dst := none, op := Op.store 23 (Operand.tmp 8) (Operand.tmp 43), type := 0, pos := "allocate.go:104", after := #[{ on := 5, ground := Ground.data }, { on := 5, ground := Ground.chain }, { on := 0, ground := Ground.phase }, { on := 1, ground := Ground.phase }, { on := 2, ground := Ground.phase }, { on := 3, ground := Ground.phase }, { on := 4, ground := Ground.phase }, { on := 5, ground := Ground.phase }], guard := none }) rfl (fun K hK => ?_) AllReadyH.nil
          clear hHeld
          go_simp
          have HS4 := Lib.hid (HS3.out.setP hwP hd5 hd6 hd7 hd8 (k + 1))
          refine hK.out _ _ (by exact True.intro) (fun hHeld => ?_)
          clear hK K
          try simp only [Act.put, List.setIfInBounds_toArray, List.set_cons_zero, List.set_cons_succ]
          refine wpAnyH_done (by kernel_rfl) ?_ _
          clear hHeld
          have c4 := HS4.out.bq.cell
          have f4 := HS4.out.bq.frozen
          have HS5 := Lib.hid (HS4.out.setQ hwQ hd9 hda hdb hdc sf)
          clear cY3 cY4 cZ3 cU3 cU4 fU3 c3 f3 hU
          gi_wp2_with fail
          refine ⟨by rw [HSF.out]; exact HS5.out, fun j hj1 hj2 => ?_⟩
          have s1 : W'.heap.size ≤ WX.heap.size := HBX.out.size
          have s2 : WX.heap.size ≤ WY.heap.size := HBY.out.size
          have s3 : WY.heap.size ≤ WZ.heap.size := HBZ.out.size
          rw [Below.heap_setCell _ _ _ j (by simp only; omega), Below.heap_setCell _ _ _ j (by simp only; omega), Below.heap_setCell _ _ _ j (by simp only; omega)]
          exact (HBU.out.block j (by omega)).trans ((HBZ.out.block j (show j < WY.heap.size by omega)).trans ((HBY.out.block j (by omega)).trans (HBX.out.block j hj2)))
  case done =>
    rintro D W' hD h hK
    have HS := Lib.hid h
    have cP := h.bp.cell
    have HK := Lib.hid hK
    have HD := Lib.hid hD
    clear h hK hD hS5 hbl
    gi_wp2_with fail
    refine ⟨by simp, .inl ⟨_, _, rfl, run_takeDeferred HK.out, ?_⟩⟩
    have hDD := HD.out
    have hbs := HS.out.below
    refine ⟨_, results_tmp2 rfl _ _ _, R, rfl, ?_, ?_⟩
    · refine RowC.congr (c := fun i => .string (runs T W wt n i)) (HS.out.row.of_block (World.putObj_heap_other (by omega))) fun i hi => ?_
      unfold runs
      rw [if_pos hi]
    · exact hbs.grown (grownBy_putObj' W' D _) hbs.size (fun r e => by cases e; omega)

theorem aRun_ok (w : World) (hG : Ground w) (t : ByteArray) (xa : Option Addr) (n cap : Nat) (s : Nat → ByteArray) (hr : Rs w xa n s) (hf : FitW n t s) (h : weighE t n s = 0) :
    Calls Tryz.prog 18 #[.string t, .slice xa n cap] w fun e w' =>
      ∃ R, e = .returned (.tuple #[.slice (some ⟨R, 0, none⟩) n n, .int .i64 0]) ∧ (RowC w' R 22 n fun i => .string (cS (Num.runP (vS t) (Num.sumN (wtN s) n) (wtN s) i))) ∧ Below w.heap.size w w' :=
  callsIn_wide.1 (aRun_in 3 (Nat.le_refl _) w hG t xa n cap s hr hf h)

end Go.Proofs.YthhihdihkddakaaGreatDoor

/- allocate.Check: the walk. -/
namespace Go.Proofs.YthhihdihkddakaaGreatDoor
open Go.RowKit

theorem below_drew {B : Nat} {a w : World} (h : Below B a w) : Below B a w.drew := below_drewN h 1
end Go.Proofs.YthhihdihkddakaaGreatDoor

/- allocate.Ideal: the walk. -/
namespace Go.Proofs.YthhihdihkddakaaGreatDoor
open Go.RowKit Fra

/-- rows of n fractions: cell i * 2 and the next -/
abbrev pairC (u v : Nat → ByteArray) : Nat → Value := fun i => .string (if i % 2 = 0 then u (i / 2) else v (i / 2))
theorem pairC_set {n : Nat} (u v : Nat → ByteArray) (k : Nat) (x y : ByteArray) (i : Nat) (_ : i < n * 2) : pairC (upd u k x) (upd v k y) i = upd (upd (pairC u v) (k * 2) (.string x)) (k * 2 + 1) (.string y) i := by
  unfold pairC upd
  by_cases h : i = k * 2 + 1
  · rw [if_pos h, if_neg (by omega), if_pos (by omega)]
  · rw [if_neg h]
    by_cases g : i = k * 2
    · rw [if_pos g, if_pos (by omega), if_pos (by omega)]
    · rw [if_neg g, if_neg (show ¬ i / 2 = k by omega), if_neg (show ¬ i / 2 = k by omega)]
theorem RowC.rf {w : World} {b : Nat} {t : TypeId} {n : Nat} {u v : Nat → ByteArray} (h : RowC w b t (n * 2) (pairC u v)) : Rf w (some ⟨b, 0, none⟩) n u v := h.rc
theorem RowC.made2 (w : World) (t : TypeId) (n : Nat) : RowC (w.alloc (.cells (madeCells #[.string ⟨#[]⟩, .string ⟨#[]⟩] (n * 2)) t)) w.heap.size t (n * 2) (pairC (fun _ => ⟨#[]⟩) fun _ => ⟨#[]⟩) := by
  unfold RowC
  rw [heap_alloc_new]
  have : madeCells #[.string ⟨#[]⟩, .string ⟨#[]⟩] (n * 2) = ((List.range (n * 2)).map (pairC (fun _ => ⟨#[]⟩) fun _ => ⟨#[]⟩)).toArray := by
    apply Array.ext
    · simp [madeCells]
    · intro i h1 h2
      simp only [madeCells, Array.getElem_map, Array.getElem_range, List.getElem_toArray, List.getElem_map, List.getElem_range]
      unfold pairC
      rcases Nat.mod_two_eq_zero_or_one i with e | e
      · rw [show (#[Value.string ⟨#[]⟩, Value.string ⟨#[]⟩] : Array Value).size = 2 from rfl, e]; rfl
      · rw [show (#[Value.string ⟨#[]⟩, Value.string ⟨#[]⟩] : Array Value).size = 2 from rfl, e]; rfl
  rw [this]
theorem run_makeFracs (n : Nat) (hn : n ≤ 1099511627776) (w : World) :
    (Instr.makeSlice 29 (.int .i64 (n : Int)) (.int .i64 (n : Int))).run Tryz.prog w = .ok (.slice (some ⟨w.heap.size, 0, none⟩) n n) (w.alloc (.cells (madeCells #[.string ⟨#[]⟩, .string ⟨#[]⟩] (n * 2)) 36)) := by
  obtain ⟨i0, hi, hz0, hz1, hz2⟩ := info_parts info_Frac
  have hr := run_make (P := Tryz.prog) w 29 36 i0 (.agg #[.string ⟨#[]⟩, .string ⟨#[]⟩]) Tryz.underlying29 hi hz0 .i64 .i64 n n (by omega) (by omega) (by rw [hz2]; omega) (by omega)
  simp only [Int.toNat_natCast] at hr
  rw [hr, hz1]
  simp [Value.cells]


/-- the ideal part, in lowest terms -/
def idl (T : Int) (W : Nat) (wt : Nat → Nat) (i : Nat) : Int × Int := red (T * (wt i : Nat)) (W : Nat)
def idN (T : Int) (W : Nat) (wt : Nat → Nat) (i : Nat) : ByteArray := cS (idl T W wt i).1
def idD (T : Int) (W : Nat) (wt : Nat → Nat) (i : Nat) : ByteArray := cD (idl T W wt i).2
theorem idl_redS {T : Int} {W : Nat} {wt : Nat → Nat} {i : Nat} (hW : 0 < W) : redS (T * (wt i : Nat)) (W : Nat) = idl T W wt i := redS_red (by omega)
/-- the first k of f, then nothing -/
def upto (f : Nat → ByteArray) (k i : Nat) : ByteArray := if i < k then f i else ⟨#[]⟩
theorem upto_next (f : Nat → ByteArray) (k i : Nat) : upto f (k + 1) i = upd (upto f k) k (f k) i := by
  unfold upto upd
  by_cases e : i = k
  · subst e; rw [if_pos (by omega), if_pos rfl]
  · rw [if_neg e]
    dsimp only
    by_cases g : i < k
    · rw [if_pos g, if_pos (by omega)]
    · rw [if_neg g, if_neg (by omega)]

end Go.Proofs.YthhihdihkddakaaGreatDoor
