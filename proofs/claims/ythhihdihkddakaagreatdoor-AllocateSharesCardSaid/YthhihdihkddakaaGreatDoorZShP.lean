/- slices.stableCmpFunc, SortStableFunc at 19 places or fewer; allocate.ordered: the walks. -/
import Derived.Test.YthhihdihkddakaaGreatDoorZShO
import Derived.Deep.DeepCutAuto
import Derived.Deep.RegionHeld3
namespace Go.Proofs.YthhihdihkddakaaGreatDoor
open Go.RowKit Go.Shelf

set_option maxRecDepth 100000 in
set_option maxHeartbeats 4000000 in
theorem aStable (w : World) (D B R n : Nat) (r : Nat → Nat) (h : Rems w B R n r) (hn1 : 1 ≤ n) (hn19 : n ≤ 19) (hBD : B < D) (hRD : R < D) (hD : SortW w D n (fun k => k) w) :
    Calls Tryz.prog 175 #[.slice (some ⟨D, 0, none⟩) n n, .int .i64 (n : Int), .func (.func 103) #[] #[.pointer (some ⟨B, 0, none⟩)]] w fun e w' =>
      e = .returned (.tuple #[]) ∧ ∃ d, Num.Sorted r n d ∧ SortW w D n d w' := by
  have HI := Lib.hid (aInsert w D B R n r h hn1 hBD hRD hD)
  have h1 : ¬ (20 : Int) ≤ (n : Int) := by omega
  have h2 : ¬ (20 : Int) < (n : Int) := by omega
  clear h hD
  go_enter Tryz.func175, Tryz.ntmps175
  go_wp2
  go_loopw [7, 8] (fun a b wr => a = .int .i64 0 ∧ b = .int .i64 20 ∧ wr = w) (fun _ _ _ => 0)
  case atStart => exact ⟨rfl, rfl, rfl⟩
  case round =>
    obtain ⟨rfl, rfl, rfl⟩ := hrel
    go_wp2_with fail
    refine HI.out.mono ?_
    rintro _ w1 ⟨rfl, d, hd, hs⟩
    have HD := Lib.hid hd
    have HS := Lib.hid hs
    clear hd hs HI
    go_wp2
    go_loopw [6, 7, 8, 9] (fun bs _ _ _ wr => bs = .int .i64 20 ∧ wr = w1) (fun _ _ _ _ _ => 0)
    case atStart => exact ⟨rfl, rfl⟩
    case round =>
      obtain ⟨rfl, rfl⟩ := hrel
      go_wp2
      go_end0
      exact ⟨rfl, d, HD.out, HS.out⟩

set_option maxRecDepth 100000 in
set_option maxHeartbeats 4000000 in
theorem aSorts (w : World) (D B R n : Nat) (r : Nat → Nat) (h : Rems w B R n r) (hn1 : 1 ≤ n) (hn19 : n ≤ 19) (hBD : B < D) (hRD : R < D) (hD : SortW w D n (fun k => k) w) :
    Calls Tryz.prog 149 #[.slice (some ⟨D, 0, none⟩) n n, .func (.func 103) #[] #[.pointer (some ⟨B, 0, none⟩)]] w fun e w' =>
      e = .returned (.tuple #[]) ∧ ∃ d, Num.Sorted r n d ∧ SortW w D n d w' := by
  have HI := Lib.hid (aStable w D B R n r h hn1 hn19 hBD hRD hD)
  clear h hD
  go_enter Tryz.func149, Tryz.ntmps149
  go_wp2_with fail
  refine HI.out.mono ?_
  rintro _ w1 ⟨rfl, d, hd, hs⟩
  go_wp2
  go_end0
  exact ⟨rfl, d, hd, hs⟩

theorem RowC.int_made (w : World) (n : Nat) : RowC (w.alloc (zeroRow n)) w.heap.size 3 n fun _ => .int .i64 0 := RowC.made w 3 (.int .i64 0) n

set_option maxRecDepth 100000 in
set_option maxHeartbeats 4000000 in
theorem aOrdered (w : World) (B R n : Nat) (r : Nat → Nat) (h : Rems w B R n r) (hn1 : 1 ≤ n) (hn19 : n ≤ 19) :
    Calls Tryz.prog 105 #[.int .i64 (n : Int), .func (.func 103) #[] #[.pointer (some ⟨B, 0, none⟩)]] w fun e w' =>
      ∃ d D, e = .returned (.slice (some ⟨D, 0, none⟩) n n) ∧ w.heap.size ≤ D ∧ Num.Sorted r n d ∧ (RowC w' D 3 n fun k => .int .i64 (d k : Nat)) ∧ Below w.heap.size w w' := by
  have hmake := run_makeInts n (by omega)
  have lB : B < w.heap.size := World.block_lt_of_cell? w ⟨B, 0, none⟩ h.box
  have lR : R < w.heap.size := h.row.lt
  have HR := Lib.hid h
  clear h
  obtain ⟨D, hD⟩ : ∃ D, w.heap.size = D := ⟨_, rfl⟩
  have hr0 : RowC (w.alloc (zeroRow n)) D 3 n fun k => .int .i64 ((if k < 0 then k else 0 : Nat) : Int) := by
    rw [← hD]
    exact (RowC.int_made w n).congr fun k _ => by rw [if_neg (by omega)]; rfl
  have HR0 := Lib.hid hr0
  have HB0 := Lib.hid (show Below D w (w.alloc (zeroRow n)) from (Below.refl _ _).alloc (by omega) _)
  clear hr0
  go_enter Tryz.func105, Tryz.ntmps105
  go_wp2_with fail
  go_loopw [11] (fun iv wr => ∃ k : Nat, k ≤ n ∧ iv = .int .i64 (k : Int) ∧ Hid (RowC wr D 3 n fun j => .int .i64 ((if j < k then j else 0 : Nat) : Int)) ∧ Hid (Below D w wr)) (fun iv _ => n - (intOf iv).toNat)
  case atStart => exact ⟨0, Nat.zero_le _, rfl, HR0, HB0⟩
  case round =>
    clear HR0 HB0
    obtain ⟨k, hk, rfl, hrow, hB⟩ := hrel
    by_cases hlt : k < n
    · have c1 := hrow.out.cell hlt
      have f1 := hrow.out.frozen k
      have HN := Lib.hid (show RowC (wr.setCell ⟨D, k, none⟩ (.int .i64 (k : Int))) D 3 n fun j => .int .i64 ((if j < k + 1 then j else 0 : Nat) : Int) from (hrow.out.set k (.int .i64 (k : Int))).congr fun j _ => by
        unfold upd
        by_cases e : j = k
        · rw [if_pos (by omega), if_pos e, e]
        · rw [if_neg e]
          dsimp only
          by_cases f : j < k
          · rw [if_pos f, if_pos (by omega)]
          · rw [if_neg f, if_neg (by omega)])
      have HBN := Lib.hid (hB.out.setCell (p := ⟨D, k, none⟩) (Nat.le_refl _) (.int .i64 (k : Int)))
      go_wp2_with fail
      go_roundw
      case rel => exact ⟨k + 1, by omega, by simp, HN, HBN⟩
      case measure => simp [intOf]; omega
    · obtain rfl : k = n := by omega
      have HS := Lib.hid (aSorts wr D B R k r (HR.out.below hB.out (by omega) (by omega)) hn1 hn19 (by omega) (by omega) ⟨hrow.out.congr fun j hj => by rw [if_pos hj], Below.refl _ _⟩)
      go_wp2_with fail
      refine HS.out.mono ?_
      rintro _ w1 ⟨rfl, d, hd, hs⟩
      go_wp2_with fail
      go_ret
      exact ⟨d, D, rfl, by omega, hd, hs.row, by rw [hD]; exact hB.out.trans hs.below⟩

end Go.Proofs.YthhihdihkddakaaGreatDoor

/- allocate.divide: the walk. -/
namespace Go.Proofs.YthhihdihkddakaaGreatDoor
open Go.RowKit Go.Shelf

/-- numbers to be divided: a total A of at most c digits, n weights with the sum W -/
structure DivAt (A W n : Nat) (wt : Nat → Nat) (c : Nat) : Prop where
  pos : 1 ≤ n
  few : n ≤ 19
  sum : Num.sumN wt n = W
  w0 : 0 < W
  c2 : c ≤ 100000
  capA : A < 10 ^ c
  capW : W < 10 ^ c
theorem sumN_at {f : Nat → Nat} : ∀ {n i : Nat}, i < n → f i ≤ Num.sumN f n
  | n + 1, i, h => by
    simp only [Num.sumN]
    by_cases e : i = n
    · subst e; omega
    · have := sumN_at (f := f) (n := n) (i := i) (by omega); omega
theorem sumN_le {f : Nat → Nat} {n : Nat} : ∀ {k : Nat}, k ≤ n → Num.sumN f k ≤ Num.sumN f n := by
  intro k hk
  induction n with
  | zero => obtain rfl : k = 0 := by omega
            exact Nat.le_refl _
  | succ n ih =>
    by_cases e : k = n + 1
    · subst e; exact Nat.le_refl _
    · have := ih (by omega); simp only [Num.sumN]; omega
theorem natS_size {k : Nat} {z : Nat} (h : z < 10 ^ k) (hk : k ≤ 1000000) : (cS (z : Nat)).size ≤ 4294967295 := by
  have := cS_size (z := (z : Int)) (k := k) (by omega)
  omega
variable {A W n c : Nat} {wt : Nat → Nat}
theorem DivAt.wlt (h : DivAt A W n wt c) {i : Nat} (hi : i < n) : wt i < 10 ^ c := by
  have := sumN_at (f := wt) hi; have := h.sum; have := h.capW; omega
theorem DivAt.mul (h : DivAt A W n wt c) {i : Nat} (hi : i < n) : A * wt i < 10 ^ (c + c) := by
  rw [Nat.pow_add]; exact Nat.mul_lt_mul'' h.capA (h.wlt hi)
theorem DivAt.sizeA (h : DivAt A W n wt c) : (cS (A : Nat)).size ≤ 4294967295 := natS_size h.capA (by have := h.c2; omega)
theorem DivAt.sizeW (h : DivAt A W n wt c) : (cS (W : Nat)).size ≤ 4294967295 := natS_size h.capW (by have := h.c2; omega)
theorem DivAt.sizeM (h : DivAt A W n wt c) {i : Nat} (hi : i < n) : (cS ((A * wt i : Nat) : Int)).size ≤ 4294967295 := natS_size (h.mul hi) (by have := h.c2; omega)
theorem DivAt.sizewt (h : DivAt A W n wt c) {i : Nat} (hi : i < n) : (cS (wt i : Nat)).size ≤ 4294967295 := natS_size (h.wlt hi) (by have := h.c2; omega)
theorem DivAt.quo (h : DivAt A W n wt c) {i : Nat} (hi : i < n) : Num.quoP A W wt i < 10 ^ (c + c) := Nat.lt_of_le_of_lt (Nat.div_le_self _ _) (h.mul hi)
theorem DivAt.rem (h : DivAt A W n wt c) (i : Nat) : Num.remP A W wt i < 10 ^ c := Nat.lt_trans (Nat.mod_lt _ h.w0) h.capW
theorem DivAt.left (h : DivAt A W n wt c) {k : Nat} (hk : k ≤ n) : Num.sumN (Num.quoP A W wt) k ≤ A := Nat.le_trans (sumN_le hk) (Num.quo_le h.sum h.w0)

/-- the parts and the remainders as they are being made -/
structure DivSt (w : World) (P R B n : Nat) (p r : Nat → ByteArray) (W : World) : Prop where
  pr : RowC W P 22 n fun i => .string (p i)
  rr : RowC W R 22 n fun i => .string (r i)
  bx : Boxed W B 23 (.slice (some ⟨R, 0, none⟩) n n)
  below : Below w.heap.size w W
theorem DivSt.next {w : World} {P R B n : Nat} {p r : Nat → ByteArray} {W W' : World} (h : DivSt w P R B n p r W) (hb : Below W.heap.size W W') : DivSt w P R B n p r W' :=
  ⟨h.pr.below hb h.pr.lt, h.rr.below hb h.rr.lt, (hb.block _ h.bx.lt).trans h.bx, h.below.trans (hb.mono h.below.size)⟩
theorem DivSt.drewN {w : World} {P R B n : Nat} {p r : Nat → ByteArray} {W : World} (h : DivSt w P R B n p r W) (q : Nat) : DivSt w P R B n p r (W.drewN q) := ⟨h.pr, h.rr, h.bx, below_drewN h.below q⟩
theorem DivSt.setP {w : World} {P R B n : Nat} {p r : Nat → ByteArray} {W : World} (h : DivSt w P R B n p r W) (hP : w.heap.size ≤ P) (h1 : R ≠ P) (h2 : B ≠ P) (i : Nat) (x : ByteArray) :
    DivSt w P R B n (upd p i x) r (W.setCell ⟨P, i, none⟩ (.string x)) :=
  ⟨(h.pr.set i (.string x)).congr fun k _ => by unfold upd; split <;> rfl, h.rr.setOther (a := ⟨P, i, none⟩) h1 _,
    (Below.heap_setCell W ⟨P, i, none⟩ _ B h2).trans h.bx, h.below.setCell (p := ⟨P, i, none⟩) hP _⟩
theorem DivSt.setR {w : World} {P R B n : Nat} {p r : Nat → ByteArray} {W : World} (h : DivSt w P R B n p r W) (hR : w.heap.size ≤ R) (h1 : P ≠ R) (h2 : B ≠ R) (i : Nat) (x : ByteArray) :
    DivSt w P R B n p (upd r i x) (W.setCell ⟨R, i, none⟩ (.string x)) :=
  ⟨h.pr.setOther (a := ⟨R, i, none⟩) h1 _, (h.rr.set i (.string x)).congr fun k _ => by unfold upd; split <;> rfl,
    (Below.heap_setCell W ⟨R, i, none⟩ _ B h2).trans h.bx, h.below.setCell (p := ⟨R, i, none⟩) hR _⟩
theorem DivSt.congr {w : World} {P R B n : Nat} {p r p' r' : Nat → ByteArray} {W : World} (h : DivSt w P R B n p r W) (h1 : ∀ i, i < n → p' i = p i) (h2 : ∀ i, i < n → r' i = r i) : DivSt w P R B n p' r' W :=
  ⟨h.pr.congr fun i hi => by rw [h1 i hi], h.rr.congr fun i hi => by rw [h2 i hi], h.bx, h.below⟩
/-- the first k of f, then nothing -/
def firsts (f : Nat → Nat) (k i : Nat) : ByteArray := if i < k then cS (f i : Nat) else ⟨#[]⟩
theorem firsts_next (f : Nat → Nat) (k i : Nat) : firsts f (k + 1) i = upd (firsts f k) k (cS (f k : Nat)) i := by
  unfold firsts upd
  by_cases e : i = k
  · subst e; rw [if_pos (by omega), if_pos rfl]
  · rw [if_neg e]
    dsimp only
    by_cases g : i < k
    · rw [if_pos g, if_pos (by omega)]
    · rw [if_neg g, if_neg (by omega)]

/-- the parts when k units have been given away -/
def given (A W : Nat) (wt : Nat → Nat) (n k i : Nat) : Nat := Num.quoP A W wt i + if Num.rk (Num.remP A W wt) n i < k then 1 else 0
theorem given_next {d : Nat → Nat} {k i : Nat} (hd : Num.Sorted (Num.remP A W wt) n d) (hk : k < n) (hi : i < n) : given A W wt n (k + 1) i = if i = d k then given A W wt n k (d k) + 1 else given A W wt n k i := by
  have h1 := hd.rk k hk
  unfold given
  by_cases e : i = d k
  · subst e
    rw [if_pos rfl, h1, if_pos (by omega), if_neg (by omega)]
  · rw [if_neg e]
    have h2 : Num.rk (Num.remP A W wt) n i ≠ k := fun h => e (Num.rk_inj hi (hd.lt k hk) (by rw [h, h1]))
    by_cases g : Num.rk (Num.remP A W wt) n i < k
    · rw [if_pos g, if_pos (by omega)]
    · rw [if_neg g, if_neg (by omega)]
theorem DivAt.part (h : DivAt A W n wt c) {i : Nat} (hi : i < n) (k : Nat) : (cS ((given A W wt n k i : Nat) : Int)).size ≤ 4294967295 := by
  have h1 := h.quo hi
  have h2 := h.c2
  refine natS_size (k := c + c + 1) ?_ (by omega)
  unfold given
  rw [Nat.pow_succ]
  split <;> omega

set_option maxRecDepth 1000000 in
set_option maxHeartbeats 16000000 in
theorem aDivide (w : World) (hG : Ground w) (T : Int) (hT : T.natAbs = A) (h : DivAt A W n wt c) (xa : Option Addr) (cap : Nat) (hr : Rs w xa n fun i => cS (wt i : Nat)) :
    Calls Tryz.prog 50 #[.string (cS T), .slice xa n cap, .string (cS (W : Nat))] w fun e w' =>
      ∃ P, e = .returned (.slice (some ⟨P, 0, none⟩) n n) ∧ (RowC w' P 22 n fun i => .string (cS (Num.splitP T W wt n i))) ∧ Below w.heap.size w w' := by
  have hn := h.few
  have hn1 := h.pos
  have hmake := run_makeStrs n (by omega)
  have HH := Lib.hid h
  have HGW := Lib.hid hG
  have HR := Lib.hid hr
  have hTs : (cS T).size ≤ 4294967295 := by
    have := cS_size (z := T) (k := c) (by have := h.capA; omega)
    have := h.c2
    omega
  have HSZ := Lib.hid (fun W => aSize hTs W)
  rw [hT] at HSZ
  have HNG := Lib.hid (fun W => aNeg hTs (vS_cS T) W)
  obtain ⟨P, hP⟩ : ∃ P, w.heap.size = P := ⟨_, rfl⟩
  obtain ⟨R, hR⟩ : ∃ R, P + 1 = R := ⟨_, rfl⟩
  obtain ⟨B, hB⟩ : ∃ B, R + 1 = B := ⟨_, rfl⟩
  have hw : ∃ W0, W0 = ((w.alloc (.cells (madeCells #[.string ⟨#[]⟩] n) 22)).alloc (.cells (madeCells #[.string ⟨#[]⟩] n) 22)).alloc (.cells #[.slice (some ⟨R, 0, none⟩) n n] 23) := ⟨_, rfl⟩
  obtain ⟨W0, hW0⟩ := hw
  have hS0 : DivSt w P R B n (firsts (Num.quoP A W wt) 0) (firsts (Num.remP A W wt) 0) W0 := by
    rw [hW0, ← hB, ← hR, ← hP]
    refine DivSt.congr (p := fun _ => ⟨#[]⟩) (r := fun _ => ⟨#[]⟩) ⟨?_, ?_, ?_, ?_⟩ (fun i _ => if_neg (by omega)) (fun i _ => if_neg (by omega))
    · exact ((RowC.made w 22 (.string ⟨#[]⟩) n).alloc _).alloc _
    · have := RowC.made (w.alloc (.cells (madeCells #[.string ⟨#[]⟩] n) 22)) 22 (.string ⟨#[]⟩) n
      rw [World.size_alloc] at this
      exact this.alloc _
    · have := Boxed.new ((w.alloc (.cells (madeCells #[.string ⟨#[]⟩] n) 22)).alloc (.cells (madeCells #[.string ⟨#[]⟩] n) 22)) 23 (.slice (some ⟨w.heap.size + 1, 0, none⟩) n n)
      rw [World.size_alloc, World.size_alloc] at this
      exact this
    · exact (((Below.refl _ w).alloc (Nat.le_refl _) _).alloc (by simp) _).alloc (by rw [World.size_alloc, World.size_alloc]; omega) _
  have HS0 := Lib.hid hS0
  have HW0 := Lib.hid hW0
  clear h hr hS0 hTs hG hW0
  go_enter Tryz.func50, Tryz.ntmps50
  go_wp2_with fail
  rw [← HW0.out]
  have hPw : w.heap.size ≤ P := by omega
  have hRw : w.heap.size ≤ R := by omega
  have hPR : P ≠ R := by omega
  have hRP : R ≠ P := by omega
  have hPB : P ≠ B := by omega
  have hBP : B ≠ P := by omega
  have hRB : R ≠ B := by omega
  have hBR : B ≠ R := by omega
  clear hP hR hB HW0
  refine (HSZ.out W0).mono ?_
  rintro _ w1 ⟨rfl, hB1⟩
  have HS1 := Lib.hid (HS0.out.next hB1)
  clear hB1 HS0 HSZ
  go_wp2_with fail
  go_loopw [10, 31] (fun mv iv wr => ∃ k : Nat, k ≤ n ∧ iv = .int .i64 (k : Int) ∧ mv = .string (cS ((A - Num.sumN (Num.quoP A W wt) k : Nat) : Int)) ∧ Hid (DivSt w P R B n (firsts (Num.quoP A W wt) k) (firsts (Num.remP A W wt) k) wr)) (fun _ iv _ => n - (intOf iv).toNat)
  case atStart => exact ⟨0, Nat.zero_le _, rfl, rfl, HS1⟩
  case round =>
    clear HS1
    obtain ⟨k, hk, rfl, rfl, HS⟩ := hrel
    by_cases hlt : k < n
    · obtain ⟨b, o, rfl, hb, hck⟩ := Rs.at (HR.out.belowAt HS.out.below (Nat.le_refl _)) hlt
      have cB := HS.out.bx.cell
      have HM := Lib.hid (fun W hW => mul_v (z := ((A * wt k : Nat) : Int)) W hW HH.out.sizeA (HH.out.sizewt hlt) (vS_cS _) (vS_cS _) (Int.natCast_mul _ _).symm)
      have HD := Lib.hid (fun W' hW => div_v (q := ((Num.quoP A W wt k : Nat) : Int)) (r := ((Num.remP A W wt k : Nat) : Int)) W' hW (HH.out.sizeM hlt) HH.out.sizeW (vS_cS _) (vS_cS _) (by have := HH.out.w0; omega) (nat_fdiv _ _) (nat_fmod _ _))
      have HSU := Lib.hid (fun W' hW => sub_v (z := ((A - Num.sumN (Num.quoP A W wt) (k + 1) : Nat) : Int)) W' hW (natS_size (Nat.lt_of_le_of_lt (Nat.sub_le A (Num.sumN (Num.quoP A W wt) k)) HH.out.capA) (by have := HH.out.c2; omega)) (natS_size (HH.out.quo hlt) (by have := HH.out.c2; omega)) (vS_cS _) (vS_cS _) (by
        have h1 := HH.out.left (k := k + 1) (by omega)
        simp only [Num.sumN] at h1 ⊢
        omega))
      obtain ⟨sw, hsw⟩ : ∃ s, cS (wt k : Nat) = s := ⟨_, rfl⟩
      obtain ⟨sa, hsa⟩ : ∃ s, cS (A : Nat) = s := ⟨_, rfl⟩
      rw [hsw] at hck HM
      rw [hsa] at HM ⊢
      go_wp2_with fail
      go_region_held3 (fun w' => w'.cell? ⟨B, 0, none⟩ = some (.slice (some ⟨R, 0, none⟩) n n))
        (go_keep)
        (first
        | (go_at_call 36;
             (first | refine (HM.out _ (HGW.out.below HS.out.below)).mono ?_ | refine (HM.out _ (HGW.out.below (HS.out.drewN _).below)).mono ?_);
             (rintro _ WX ⟨rfl, hB1⟩);
             (have HSX := Lib.hid (show DivSt w P R B n (firsts (Num.quoP A W wt) k) (firsts (Num.remP A W wt) k) WX from by first | exact HS.out.next hB1 | exact (HS.out.drewN _).next hB1));
             (have cBX := HSX.out.bx.cell);
             (clear hB1))
        | (go_at_call 66;
             (first | refine (HD.out _ (HGW.out.below HSX.out.below)).mono ?_ | refine (HD.out _ (HGW.out.below (HSX.out.drewN _).below)).mono ?_);
             (rintro _ WY ⟨rfl, hB1⟩);
             (have HSY := Lib.hid (show DivSt w P R B n (firsts (Num.quoP A W wt) k) (firsts (Num.remP A W wt) k) WY from by first | exact HSX.out.next hB1 | exact (HSX.out.drewN _).next hB1));
             (have cBY := HSY.out.bx.cell);
             (have cP := HSY.out.pr.cell hlt);
             (have fP := HSY.out.pr.frozen k);
             (have fR := HSY.out.rr.frozen k);
             (have cR := (HSY.out.setP hPw hRP hBP k (cS ((Num.quoP A W wt k : Nat) : Int))).rr.cell hlt);
             (have cBZ := (HSY.out.setP hPw hRP hBP k (cS ((Num.quoP A W wt k : Nat) : Int))).bx.cell);
             (have cBU := ((HSY.out.setP hPw hRP hBP k (cS ((Num.quoP A W wt k : Nat) : Int))).setR hRw hPR hBR k (cS ((Num.remP A W wt k : Nat) : Int))).bx.cell);
             (clear hB1)))
      have HS3 := Lib.hid (((HSY.out.setP hPw hRP hBP k (cS ((Num.quoP A W wt k : Nat) : Int))).setR hRw hPR hBR k (cS ((Num.remP A W wt k : Nat) : Int))).congr (fun i _ => firsts_next (Num.quoP A W wt) k i) (fun i _ => firsts_next (Num.remP A W wt) k i))
      clear cBU cBZ cR fR fP cP cBY HSY cBX HSX
      revert HS3
      generalize (WY.setCell ⟨P, k, none⟩ (.string (cS ((Num.quoP A W wt k : Nat) : Int)))).setCell ⟨R, k, none⟩ (.string (cS ((Num.remP A W wt k : Nat) : Int))) = W3
      intro HS3
      have c3 := HS3.out.pr.cell hlt
      rw [show firsts (Num.quoP A W wt) (k + 1) k = cS ((Num.quoP A W wt k : Nat) : Int) from if_pos (by omega)] at c3
      clear cB hck
      go_wp2_with fail
      refine (HSU.out _ (HGW.out.below HS3.out.below)).mono ?_
      rintro _ W4 ⟨rfl, hB4⟩
      have HS4 := Lib.hid (HS3.out.next hB4)
      clear hB4 c3 HS3
      go_wp2_with fail
      go_roundw
      case rel => exact ⟨k + 1, by omega, by simp, rfl, HS4⟩
      case measure => simp [intOf]; omega
    · obtain rfl : k = n := by omega
      obtain ⟨m, hm⟩ : ∃ m, Num.missP A W wt k = m := ⟨_, rfl⟩
      have HMISS := Lib.hid hm
      have hmk : m ≤ k := by rw [← hm]; exact Num.miss_le_n HH.out.sum HH.out.w0
      rw [show A - Num.sumN (Num.quoP A W wt) k = m from hm]
      have HSM := Lib.hid (small_fits (cS (m : Nat)) wr (by have := natS_size (k := 2) (z := m) (by omega) (by decide); omega) (by rw [vS_cS]; unfold fits; exact decide_eq_true (by omega)))
      rw [vS_cS] at HSM
      clear hm hlt hk
      go_wp2_with fail
      refine HSM.out.mono ?_
      rintro _ W2 ⟨rfl, hB2⟩
      have HS2 := Lib.hid (HS.out.next hB2)
      clear hB2 HSM HS
      have HO := Lib.hid (aOrdered W2 B R k (Num.remP A W wt) ⟨HS2.out.bx.cell, HS2.out.rr.congr fun i hi => by rw [show firsts (Num.remP A W wt) k i = _ from if_pos hi], by omega, fun i _ => natS_size (HH.out.rem i) (by have := HH.out.c2; omega)⟩ hn1 hn)
      go_wp2_with fail
      refine HO.out.mono ?_
      rintro _ W3 ⟨d, D, rfl, hDl, hd, hDr, hB3⟩
      have hDP : D ≠ P := by have := HS2.out.pr.lt; omega
      obtain ⟨rr, hrr⟩ : ∃ rr, firsts (Num.remP A W wt) k = rr := ⟨_, rfl⟩
      rw [hrr] at HS2
      have HS3 := Lib.hid ((HS2.out.next hB3).congr (p' := fun i => cS ((given A W wt k 0 i : Nat) : Int)) (r' := rr) (fun i hi => by unfold given; rw [show firsts (Num.quoP A W wt) k i = _ from if_pos hi, if_neg (by omega)]; rfl) (fun _ _ => rfl))
      have HD0 := Lib.hid hDr
      have HDS := Lib.hid hd
      clear hrr HO HS2 hDr hd hB3 hDl
      go_wp2_with fail
      go_loopw [71] (fun iv wx => ∃ j : Nat, j ≤ m ∧ iv = .int .i64 (j : Int) ∧ Hid (DivSt w P R B k (fun i => cS ((given A W wt k j i : Nat) : Int)) rr wx) ∧ Hid (RowC wx D 3 k fun i => .int .i64 (d i : Nat))) (fun iv _ => m - (intOf iv).toNat)
      case atStart => exact ⟨0, Nat.zero_le _, rfl, HS3, HD0⟩
      case round =>
        clear HS3 HD0
        obtain ⟨j, hj, rfl, HS, HDR⟩ := hrel
        by_cases hjm : j < m
        · have hjk : j < k := by omega
          have cD := HDR.out.cell hjk
          have hdk : d j < k := HDS.out.lt j hjk
          have hdi : ((d j : Nat) : Int) < (k : Int) := by omega
          have hdn : (0 : Int) ≤ ((d j : Nat) : Int) := by omega
          have c1 := HS.out.pr.cell hdk
          have HAD := Lib.hid (fun W' hW => add_v (z := ((given A W wt k j (d j) + 1 : Nat) : Int)) W' hW (HH.out.part hdk j) (show (⟨#[49]⟩ : ByteArray).size ≤ 4294967295 by decide) (vS_cS _) vS_one (by omega))
          have HNX := Lib.hid (fun i hi => given_next (i := i) HDS.out hjk hi)
          obtain ⟨q, hq⟩ : ∃ q, d j = q := ⟨_, rfl⟩
          obtain ⟨s1, hs1⟩ : ∃ s, cS ((given A W wt k j (d j) : Nat) : Int) = s := ⟨_, rfl⟩
          obtain ⟨s2, hs2⟩ : ∃ s, cS ((given A W wt k j (d j) + 1 : Nat) : Int) = s := ⟨_, rfl⟩
          have HS2 := Lib.hid hs2
          unfold StrPost at HAD
          simp only [hs1, hs2] at c1 HAD
          rw [hq] at c1 cD hdi hdn HNX HS2 hdk
          clear hq hs1 hs2
          go_wp2_with fail
          refine (HAD.out _ (HGW.out.below HS.out.below)).mono ?_
          rintro _ W5 ⟨rfl, hB5⟩
          have hS5 := HS.out.next hB5
          have hD5 := HDR.out.below hB5 HDR.out.lt
          have c5 := hS5.pr.cell hdk
          have f5 := hS5.pr.frozen q
          have HS6 := Lib.hid ((hS5.setP hPw hRP hBP q s2).congr (p' := fun i => cS ((given A W wt k (j + 1) i : Nat) : Int)) (r' := rr) (fun i hi => by
            rw [HNX.out i hi]
            unfold upd
            by_cases e : i = q
            · rw [if_pos e, if_pos e, ← HS2.out]
            · rw [if_neg e, if_neg e]) (fun _ _ => rfl))
          have HD6 := Lib.hid (hD5.setOther (a := ⟨P, q, none⟩) hDP (.string s2))
          clear hB5 hS5 hD5 HAD HS HDR cD c1 HNX
          go_wp2_with fail
          go_roundw
          case rel => exact ⟨j + 1, by omega, by simp, HS6, HD6⟩
          case measure => simp [intOf]; omega
        · obtain rfl : j = m := by omega
          clear HDR hj hjm
          go_wp2_with fail
          refine (HNG.out _).mono ?_
          rintro _ W5 ⟨rfl, hB5⟩
          have HS5 := Lib.hid (HS.out.next hB5)
          clear hB5 HS
          by_cases hneg : T < 0
          · rw [decide_eq_true hneg]
            have HS6 := Lib.hid (HS5.out.congr (p' := fun i => cS (if i < 0 then -((given A W wt k j i : Nat) : Int) else ((given A W wt k j i : Nat) : Int))) (r' := rr) (fun i _ => by rw [if_neg (by omega)]) (fun _ _ => rfl))
            have HNEG := Lib.hid hneg
            clear HS5 hneg
            go_wp2_with fail
            go_loopw [88] (fun iv wx => ∃ l : Nat, l ≤ k ∧ iv = .int .i64 (l : Int) ∧ Hid (DivSt w P R B k (fun i => cS (if i < l then -((given A W wt k j i : Nat) : Int) else ((given A W wt k j i : Nat) : Int))) rr wx)) (fun iv _ => k - (intOf iv).toNat)
            case atStart => exact ⟨0, Nat.zero_le _, rfl, HS6⟩
            case round =>
              clear HS6
              obtain ⟨l, hl, rfl, HS⟩ := hrel
              by_cases hlk : l < k
              · have c1 := HS.out.pr.cell hlk
                have f1 := HS.out.pr.frozen l
                rw [if_neg (by omega)] at c1
                have HNE := Lib.hid (fun W' => neg_v (z := -((given A W wt k j l : Nat) : Int)) W' (HH.out.part hlk j) (vS_cS _) rfl)
                obtain ⟨s1, hs1⟩ : ∃ s, cS ((given A W wt k j l : Nat) : Int) = s := ⟨_, rfl⟩
                obtain ⟨s2, hs2⟩ : ∃ s, cS (-((given A W wt k j l : Nat) : Int)) = s := ⟨_, rfl⟩
                have HS2 := Lib.hid hs2
                simp only [hs1, hs2] at c1 HNE
                clear hs1 hs2
                have HS6 := Lib.hid ((HS.out.setP hPw hRP hBP l s2).congr (p' := fun i => cS (if i < l + 1 then -((given A W wt k j i : Nat) : Int) else ((given A W wt k j i : Nat) : Int))) (r' := rr) (fun i hi => by
                  unfold upd
                  by_cases e : i = l
                  · rw [if_pos e, e, if_pos (by omega), ← HS2.out]
                  · rw [if_neg e]
                    dsimp only
                    by_cases g : i < l
                    · rw [if_pos g, if_pos (by omega)]
                    · rw [if_neg g, if_neg (by omega)]) (fun _ _ => rfl))
                clear HS
                go_wp2_with fail
                refine (HNE.out _).mono ?_
                rintro _ _ ⟨rfl, rfl⟩
                go_wp2_with fail
                go_roundw
                case rel => exact ⟨l + 1, by omega, by simp, HS6⟩
                case measure => simp [intOf]; omega
              · obtain rfl : l = k := by omega
                have HF := Lib.hid (HS.out.pr.congr (d := fun i => .string (cS (Num.splitP T W wt l i))) (fun i hi => by unfold Num.splitP; rw [if_pos HNEG.out, hT, if_pos hi]; unfold Num.partP; rw [HMISS.out]; rfl))
                have HB := Lib.hid HS.out.below
                clear HS
                go_wp2_with fail
                go_ret
                exact ⟨P, rfl, HF.out, HB.out⟩
          · rw [decide_eq_false hneg]
            have HF := Lib.hid (HS5.out.pr.congr (d := fun i => .string (cS (Num.splitP T W wt k i))) (fun i hi => by unfold Num.splitP; rw [if_neg hneg, hT]; unfold Num.partP; rw [HMISS.out]; rfl))
            have HB := Lib.hid HS5.out.below
            clear HS5 hneg
            go_wp2_with fail
            go_ret
            exact ⟨P, rfl, HF.out, HB.out⟩

end Go.Proofs.YthhihdihkddakaaGreatDoor

/- allocate.Split, Ideal, Share: the walks. -/
namespace Go.Proofs.YthhihdihkddakaaGreatDoor
open Go.RowKit

theorem can_eq {s : ByteArray} (h : isCan s = true) : s = cS (vS s) := by
  exact (of_decide_eq_true h).symm
/-- the weights as numbers -/
def wtN (s : Nat → ByteArray) (i : Nat) : Nat := (vS (s i)).toNat
structure Data (t : ByteArray) (n : Nat) (s : Nat → ByteArray) : Prop where
  div : ∃ c, DivAt (vS t).natAbs (Num.sumN (wtN s) n) n (wtN s) c
  divc : ∃ c, c ≤ 1100 ∧ DivAt (vS t).natAbs (Num.sumN (wtN s) n) n (wtN s) c
  total : t = cS (vS t)
  each : ∀ i, i < n → s i = cS (wtN s i : Nat)
  sum : sumS s n = (Num.sumN (wtN s) n : Nat)
theorem sumS_wt {s : Nat → ByteArray} : ∀ {n : Nat}, (∀ i, i < n → 0 ≤ vS (s i)) → sumS s n = (Num.sumN (wtN s) n : Nat)
  | 0, _ => rfl
  | n + 1, h => by
    rw [sumS_succ, sumS_wt (fun i hi => h i (by omega))]
    have := h n (by omega)
    simp only [Num.sumN, wtN]
    omega
theorem Good.data {t : ByteArray} {n : Nat} {s : Nat → ByteArray} (h : Good t n s) (hf : FitW n t s) : Data t n s := by
  have hsum := sumS_wt h.nn
  have hne := h.ne
  have hfew := hf.few
  have hfew2 := h.few
  have hD : DivAt (vS t).natAbs (Num.sumN (wtN s) n) n (wtN s) (1000 + n) := by
    refine ⟨h.pos, by omega, rfl, by omega, by omega, ?_, ?_⟩
    · exact Cap.mono (l := 1000 + n) (Cap.of hf.t1 rfl) (by omega)
    · have h1 := sumS_cap (s := s) (c := 1000) (by decide) (k := n) (fun i hi => Cap.of (hf.size h.few i hi) rfl)
      unfold Cap at h1
      rw [hsum] at h1
      simpa using h1
  refine ⟨⟨_, hD⟩, ⟨_, by omega, hD⟩, can_eq h.total, fun i hi => ?_, hsum⟩
  have h1 := can_eq (h.can i hi)
  have h2 := h.nn i hi
  rw [show ((wtN s i : Nat) : Int) = vS (s i) by unfold wtN; omega]
  exact h1

def nilE (c : Int) : Value := .tuple #[.slice none 0 0, .int .i64 c]
set_option maxRecDepth 100000 in
set_option maxHeartbeats 4000000 in
theorem aSplit_ok (w : World) (hG : Ground w) (t : ByteArray) (xa : Option Addr) (n cap : Nat) (s : Nat → ByteArray) (hr : Rs w xa n s) (hf : FitW n t s) (h : weighE t n s = 0) :
    Calls Tryz.prog 14 #[.string t, .slice xa n cap] w fun e w' =>
      ∃ P, e = .returned (.tuple #[.slice (some ⟨P, 0, none⟩) n n, .int .i64 0]) ∧ (RowC w' P 22 n fun i => .string (cS (Num.splitP (vS t) (Num.sumN (wtN s) n) (wtN s) n i))) ∧ Below w.heap.size w w' := by
  have hd := (weighE_zero h).data hf
  have HW := Lib.hid (aWeigh w hG t xa n cap s hr hf)
  rw [if_pos h, h, hd.sum] at HW
  obtain ⟨c, hdiv⟩ := hd.div
  have HD := Lib.hid (fun W hG hr => aDivide W hG (vS t) rfl hdiv xa cap hr)
  rw [← hd.total] at HD
  have HR := Lib.hid (Rs.congr hr (t := fun i => cS (wtN s i : Nat)) (fun i hi => (hd.each i hi).symm))
  have HG := Lib.hid hG
  clear hd hdiv h hr hf hG
  go_enter Tryz.func14, Tryz.ntmps14
  go_wp2_with fail
  refine HW.out.mono ?_
  rintro _ w1 ⟨rfl, hB⟩
  go_wp2_with fail
  refine (HD.out w1 (HG.out.below hB) (HR.out.belowAt hB (Nat.le_refl _))).mono ?_
  rintro _ w2 ⟨P, rfl, hP, hB2⟩
  go_wp2_with fail
  go_ret2
  exact ⟨P, rfl, hP, hB.trans (hB2.mono hB.size)⟩

end Go.Proofs.YthhihdihkddakaaGreatDoor

/- allocate.checkShare, Share: the walks. -/
namespace Go.Proofs.YthhihdihkddakaaGreatDoor
open Go.RowKit Fra

theorem Rs.three (w : World) (t p q : ByteArray) (ty : TypeId) : Rs (w.alloc (.cells #[.string t, .string p, .string q] ty)) (some ⟨w.heap.size, 0, none⟩) 3 fun i => if i = 0 then t else if i = 1 then p else q :=
  ⟨fun _ => ⟨w.heap.size, 0, rfl, by simp, fun i hi => by
    rw [cell_of_row _ _ _ _ _ _ (heap_alloc_new _ _)]
    rcases (show i = 0 ∨ i = 1 ∨ i = 2 by omega) with rfl | rfl | rfl <;> rfl⟩⟩
theorem three_size {t p q : ByteArray} (ht : t.size ≤ 1000) (hp : p.size ≤ 1000) (hq : q.size ≤ 1000) (i : Nat) (_ : i < 3) : (if i = 0 then t else if i = 1 then p else q).size ≤ 4294967295 := by
  by_cases h : i = 0
  · rw [if_pos h]; omega
  · rw [if_neg h]
    by_cases g : i = 1
    · rw [if_pos g]; omega
    · rw [if_neg g]; omega
def can3 (t p q : ByteArray) : Bool := isCan t && (isCan p && isCan q)
theorem allC_three (t p q : ByteArray) : allC 3 (fun i => if i = 0 then t else if i = 1 then p else q) = can3 t p q := by
  unfold allC can3
  simp [List.range, List.range.loop]
/-- the result of Share, the rest, and the error -/
abbrev shareV (a b : ByteArray) (c : Int) : Value := .tuple #[.string a, .string b, .int .i64 c]

set_option maxRecDepth 100000 in
set_option maxHeartbeats 4000000 in
theorem aChk_can {t p q : ByteArray} (ht : t.size ≤ 1000) (hp : p.size ≤ 1000) (hq : q.size ≤ 1000) (hc : can3 t p q = false) : Ret 70 #[.string t, .string p, .string q] (.int .i64 1) := by
  intro w hG
  have HC := Lib.hid (aCan _ _ 3 3 _ (Rs.three w t p q 22) (by decide) (three_size ht hp hq))
  rw [allC_three, hc] at HC
  have HB := Lib.hid (show Below w.heap.size w (w.alloc (.cells #[.string t, .string p, .string q] 22)) from (Below.refl _ _).alloc (Nat.le_refl _) _)
  clear hc ht hp hq hG
  go_enter Tryz.func70, Tryz.ntmps70
  go_wp2_with fail
  refine HC.out.mono ?_
  rintro _ _ ⟨rfl, rfl⟩
  go_wp2_with fail
  go_ret
  exact ⟨rfl, HB.out⟩

set_option maxRecDepth 100000 in
set_option maxHeartbeats 4000000 in
theorem aChk_div {t p q : ByteArray} (ht : t.size ≤ 1000) (hp : p.size ≤ 1000) (hq : q.size ≤ 1000) (hc : can3 t p q = true) (h0 : vS q = 0) : Ret 70 #[.string t, .string p, .string q] (.int .i64 10) := by
  intro w hG
  have HC := Lib.hid (aCan _ _ 3 3 _ (Rs.three w t p q 22) (by decide) (three_size ht hp hq))
  rw [allC_three, hc] at HC
  have HB := Lib.hid (show Below w.heap.size w (w.alloc (.cells #[.string t, .string p, .string q] 22)) from (Below.refl _ _).alloc (Nat.le_refl _) _)
  obtain rfl : q = ⟨#[]⟩ := by
    have h1 := can_eq (show isCan q = true by unfold can3 at hc; simp at hc; exact hc.2.2)
    rw [h1, h0, cS_zero]
  clear hc ht hp hq hG h0
  go_enter Tryz.func70, Tryz.ntmps70
  go_wp2_with fail
  refine HC.out.mono ?_
  rintro _ _ ⟨rfl, rfl⟩
  go_wp2_with fail
  go_ret
  exact ⟨rfl, HB.out⟩

set_option maxRecDepth 100000 in
set_option maxHeartbeats 4000000 in
theorem aChk_neg {t p q : ByteArray} (ht : t.size ≤ 1000) (hp : p.size ≤ 1000) (hq : q.size ≤ 1000) (hc : can3 t p q = true) (h0 : vS q ≠ 0) (h1 : vS p < 0) : Ret 70 #[.string t, .string p, .string q] (.int .i64 2) := by
  intro w hG
  have HC := Lib.hid (aCan _ _ 3 3 _ (Rs.three w t p q 22) (by decide) (three_size ht hp hq))
  rw [allC_three, hc] at HC
  have HB := Lib.hid (show Below w.heap.size w (w.alloc (.cells #[.string t, .string p, .string q] 22)) from (Below.refl _ _).alloc (Nat.le_refl _) _)
  have hne : (q.toList == []) = false := by
    have h1 := can_eq (show isCan q = true by unfold can3 at hc; simp at hc; exact hc.2.2)
    rw [h1, cS_beq_nil]; exact decide_eq_false h0
  have HN := Lib.hid (aNeg (s := p) (by omega) rfl (w.alloc (.cells #[.string t, .string p, .string q] 22)))
  rw [decide_eq_true h1] at HN
  clear hc ht hp hq hG h0 h1
  go_enter Tryz.func70, Tryz.ntmps70
  go_wp2_with fail
  refine HC.out.mono ?_
  rintro _ _ ⟨rfl, rfl⟩
  go_wp2_with fail
  refine HN.out.mono ?_
  rintro _ w1 ⟨rfl, hB1⟩
  have hB2 := HB.out.trans (hB1.mono HB.out.size)
  clear hB1
  go_wp2_with fail
  go_ret
  exact ⟨rfl, hB2⟩

set_option maxRecDepth 100000 in
set_option maxHeartbeats 4000000 in
theorem aChk_gt {t p q : ByteArray} (ht : t.size ≤ 1000) (hp : p.size ≤ 1000) (hq : q.size ≤ 1000) (hc : can3 t p q = true) (h0 : vS q ≠ 0) (h1 : ¬ vS p < 0) (h2 : vS q < vS p) : Ret 70 #[.string t, .string p, .string q] (.int .i64 2) := by
  intro w hG
  have HC := Lib.hid (aCan _ _ 3 3 _ (Rs.three w t p q 22) (by decide) (three_size ht hp hq))
  rw [allC_three, hc] at HC
  have HB := Lib.hid (show Below w.heap.size w (w.alloc (.cells #[.string t, .string p, .string q] 22)) from (Below.refl _ _).alloc (Nat.le_refl _) _)
  have hne : (q.toList == []) = false := by
    have h1 := can_eq (show isCan q = true by unfold can3 at hc; simp at hc; exact hc.2.2)
    rw [h1, cS_beq_nil]; exact decide_eq_false h0
  have HN := Lib.hid (aNeg (s := p) (by omega) rfl (w.alloc (.cells #[.string t, .string p, .string q] 22)))
  rw [decide_eq_false h1] at HN
  have hk : cmp3 (vS p) (vS q) = 1 := by unfold cmp3; rw [if_neg (by omega)]; split <;> omega
  have HM := Lib.hid (fun W => compare_v (a := p) (b := q) W (by omega) (by omega) rfl rfl hk)
  clear hc ht hp hq hG h0 h1 h2 hk
  go_enter Tryz.func70, Tryz.ntmps70
  go_wp2_with fail
  refine HC.out.mono ?_
  rintro _ _ ⟨rfl, rfl⟩
  go_wp2_with fail
  refine HN.out.mono ?_
  rintro _ w1 ⟨rfl, hB1⟩
  have hB2 := HB.out.trans (hB1.mono HB.out.size)
  clear hB1
  go_wp2_with fail
  refine (HM.out _).mono ?_
  rintro _ w2 ⟨rfl, hB3⟩
  have hB4 := hB2.trans (hB3.mono hB2.size)
  clear hB2 hB3
  go_wp2_with fail
  go_ret
  exact ⟨rfl, hB4⟩

set_option maxRecDepth 100000 in
set_option maxHeartbeats 4000000 in
theorem aChk_ok {t p q : ByteArray} (ht : t.size ≤ 1000) (hp : p.size ≤ 1000) (hq : q.size ≤ 1000) (hc : can3 t p q = true) (h0 : vS q ≠ 0) (h1 : ¬ vS p < 0) (h2 : ¬ vS q < vS p) : Ret 70 #[.string t, .string p, .string q] (.int .i64 0) := by
  intro w hG
  have HC := Lib.hid (aCan _ _ 3 3 _ (Rs.three w t p q 22) (by decide) (three_size ht hp hq))
  rw [allC_three, hc] at HC
  have HB := Lib.hid (show Below w.heap.size w (w.alloc (.cells #[.string t, .string p, .string q] 22)) from (Below.refl _ _).alloc (Nat.le_refl _) _)
  have hne : (q.toList == []) = false := by
    have h1 := can_eq (show isCan q = true by unfold can3 at hc; simp at hc; exact hc.2.2)
    rw [h1, cS_beq_nil]; exact decide_eq_false h0
  have HN := Lib.hid (aNeg (s := p) (by omega) rfl (w.alloc (.cells #[.string t, .string p, .string q] 22)))
  rw [decide_eq_false h1] at HN
  obtain ⟨k, hk⟩ : ∃ k, cmp3 (vS p) (vS q) = k := ⟨_, rfl⟩
  have hkk : ¬ 0 < k := by rw [← hk, cmp3_pos]; exact h2
  have HM := Lib.hid (fun W => compare_v (a := p) (b := q) W (by omega) (by omega) rfl rfl hk)
  clear hc ht hp hq hG h0 h1 h2 hk
  go_enter Tryz.func70, Tryz.ntmps70
  go_wp2_with fail
  refine HC.out.mono ?_
  rintro _ _ ⟨rfl, rfl⟩
  go_wp2_with fail
  refine HN.out.mono ?_
  rintro _ w1 ⟨rfl, hB1⟩
  have hB2 := HB.out.trans (hB1.mono HB.out.size)
  clear hB1
  go_wp2_with fail
  refine (HM.out _).mono ?_
  rintro _ w2 ⟨rfl, hB3⟩
  have hB4 := hB2.trans (hB3.mono hB2.size)
  clear hB2 hB3
  go_wp2_with fail
  go_ret
  exact ⟨rfl, hB4⟩

/-- why there is no share -/
def shareE (t p q : ByteArray) : Int := if can3 t p q = false then 1 else if vS q = 0 then 10 else if vS p < 0 ∨ vS q < vS p then 2 else 0
theorem aChk {t p q : ByteArray} (ht : t.size ≤ 1000) (hp : p.size ≤ 1000) (hq : q.size ≤ 1000) : Ret 70 #[.string t, .string p, .string q] (.int .i64 (shareE t p q)) := by
  unfold shareE
  by_cases h : can3 t p q = false
  · rw [if_pos h]; exact aChk_can ht hp hq h
  rw [if_neg h]
  have h' : can3 t p q = true := by simpa using h
  by_cases h0 : vS q = 0
  · rw [if_pos h0]; exact aChk_div ht hp hq h' h0
  rw [if_neg h0]
  by_cases h1 : vS p < 0
  · rw [if_pos (Or.inl h1)]; exact aChk_neg ht hp hq h' h0 h1
  by_cases h2 : vS q < vS p
  · rw [if_pos (Or.inr h2)]; exact aChk_gt ht hp hq h' h0 h1 h2
  · rw [if_neg (by omega)]; exact aChk_ok ht hp hq h' h0 h1 h2

set_option maxRecDepth 100000 in
set_option maxHeartbeats 4000000 in
theorem aShare_bad {t p q : ByteArray} {c : Int} (hc : Ret 70 #[.string t, .string p, .string q] (.int .i64 c)) (h0 : c ≠ 0) : Ret 26 #[.string t, .string p, .string q] (shareV ⟨#[]⟩ ⟨#[]⟩ c) := by
  intro w hG
  have HC := Lib.hid (hc w hG)
  have hb : (c != 0) = true := by rw [bne_iff_ne]; exact h0
  clear hc h0
  go_enter Tryz.func26, Tryz.ntmps26
  go_wp2_with fail
  refine HC.out.mono ?_
  rintro _ w1 ⟨rfl, hB⟩
  go_wp2_with fail
  go_ret3
  exact ⟨rfl, hB⟩

set_option maxRecDepth 100000 in
set_option maxHeartbeats 4000000 in
theorem aShare_ok {t p q : ByteArray} (ht : t.size ≤ 1000) (hp : p.size ≤ 1000) (hq : q.size ≤ 1000) (h : shareE t p q = 0) (h0 : 0 < vS q) {z : Int} (hz : rnd 1 (vS t * vS p, vS q) = z) (hzc : (cS z).size ≤ 100000) :
    Ret 26 #[.string t, .string p, .string q] (shareV (cS z) (cS (vS t - z)) 0) := by
  intro w hG
  have HC := Lib.hid (aChk ht hp hq w hG)
  rw [h] at HC
  have hcm := Cap.mul (Cap.of ht rfl) (Cap.of hp rfl)
  have hms := cS_size hcm
  have HM := Lib.hid (fun W hW => mul_v (a := t) (b := p) (z := vS t * vS p) W hW (by omega) (by omega) rfl rfl rfl)
  obtain ⟨m, hm⟩ : ∃ m, cS (vS t * vS p) = m := ⟨_, rfl⟩
  have hval : Val m q (vS t * vS p, vS q) := ⟨by rw [← hm]; unfold raw; rw [vS_cS]; exact rawP_of_pos h0, by rw [← hm]; omega, by omega⟩
  have HRD := Lib.hid (round_ok hval (by decide : (1 : Int) ≤ 1) (by decide) hz)
  have HSB := Lib.hid (fun W hW => sub_v (a := t) (b := cS z) (z := vS t - z) W hW (by omega) (by omega) rfl (vS_cS _) rfl)
  unfold StrPost at HM
  rw [hm] at HM
  have HG := Lib.hid hG
  clear h h0 hz hzc hcm hms hm hval ht hp hq hG
  go_enter Tryz.func26, Tryz.ntmps26
  go_wp2_with fail
  refine HC.out.mono ?_
  rintro _ w1 ⟨rfl, hB⟩
  go_wp2_with fail
  refine (HM.out w1 (HG.out.below hB)).mono ?_
  rintro _ w2 ⟨rfl, hB2⟩
  replace hB := hB.trans (hB2.mono hB.size)
  clear hB2
  go_upto_region 5 with fail
  obtain ⟨W3, hW3⟩ : ∃ W3, W3 = w2.alloc (.cells #[.string m, .string q] 36) := ⟨_, rfl⟩
  have hP : PairAt W3 w2.heap.size 36 m q := by rw [hW3]; exact PairAt.made _ _ _ _
  have hB3 : Below w.heap.size w W3 := by rw [hW3]; exact hB.alloc hB.size _
  rw [← hW3]
  clear hW3 hB
  obtain ⟨k0, k1, _, _⟩ := hP.cells
  go_wp2_with fail
  refine (HRD.out W3 (HG.out.below hB3)).mono ?_
  rintro _ w4 ⟨rfl, hB4⟩
  replace hB3 := hB3.trans (hB4.mono hB3.size)
  clear hB4 k0 k1 hP
  go_wp2_with fail
  refine (HSB.out w4 (HG.out.below hB3)).mono ?_
  rintro _ w5 ⟨rfl, hB5⟩
  replace hB3 := hB3.trans (hB5.mono hB3.size)
  clear hB5
  go_wp2_with fail
  go_ret3
  exact ⟨rfl, hB3⟩

end Go.Proofs.YthhihdihkddakaaGreatDoor

/- A region that draws, in a round of a range over a function; an append that has room. -/
namespace Go.Proofs.YthhihdihkddakaaGreatDoor
open Go.RowKit Go.Shelf

theorem uponIn_of_upon {P : Program} {o : Oper} {a : Act} {next next' : Act → World → Prop} {Q : Exit → Act → World → Prop} (l n : Nat) (hn : ∀ a w, next a w → next' a w) :
    ∀ r, o.upon P a next Q r → o.uponIn (Fence.wide.inRound l) n P a next' Q r := by
  intro r h
  cases r with
  | ok x w' =>
    cases x with
    | value v => exact hn _ _ h
    | skip => exact hn _ _ h
    | «defer» d => exact hn _ _ h
    | enter f args =>
      refine ⟨fun e => (by cases e), CallsIn.inRound l (callsIn_wide.2 (Calls.mono (R := fun
        | .returned v, w'' => next (a.put o.dst v) w''
        | .panicked chain, w'' => Q (.panic chain) a w''
        | .outgrown, _ => LetsOut Q) h fun e w'' hk => ?_))⟩
      cases e with
      | returned v => exact hn _ _ hk
      | panicked chain => exact hk
      | outgrown => exact hk
    | row row args =>
      refine ⟨fun e => (by cases e), fun c cs _ => ?_⟩
      obtain ⟨v, w'', hk, hs⟩ := (show Rows P row args w' fun v w'' => next (a.put o.dst v) w'' from h) c cs
      exact ⟨v, w'', hn _ _ hk, by rw [fenced_inRound]; exact stepsIn_wide.2 hs⟩
    | _ => exact h.elim
  | halt e w' =>
    cases e with
    | panic v => exact h
    | _ => exact h.elim

theorem wpOpsIn_of_wpOps {P : Program} {ops : Array Oper} {Q : Exit → Act → World → Prop} (l n : Nat) (hnd : ∀ (i : Nat) (o : Oper) c, ops[i]? = some o → o.op ≠ Op.defer c) (hQ : ¬ LetsOut Q) :
    ∀ is a w, wpOps P ops Q is a w → wpOpsIn (Fence.wide.inRound l) n P ops Q is a w
  | [], _, _, h => h
  | i :: rest, a, w, h => by
    unfold wpOps at h
    unfold wpOpsIn
    cases ho : ops[i]? with
    | none =>
      simp only [ho] at h
      exact wpOpsIn_of_wpOps l n hnd hQ rest a w h
    | some o =>
      simp only [ho] at h ⊢
      by_cases hw : Region.wanted o (yielded ops a.tmps) = true
      · rw [if_pos hw] at h ⊢
        rcases h with h | ⟨_, h⟩
        · refine ⟨fun _ _ => trivial, ?_⟩
          rw [Oper.semAt_eq _ _ _ (fun c => hnd i o c ho)]
          exact uponIn_of_upon l n (fun a w => wpOpsIn_of_wpOps l n hnd hQ rest a w) _ h
        · exact absurd h hQ
      · rw [if_neg hw] at h ⊢
        exact ⟨fun _ _ => trivial, wpOpsIn_of_wpOps l n hnd hQ rest _ w h⟩

/-- as wp_region_held_drew, in a round -/
theorem wpIn_region_heldR {P : Program} {ops : Array Oper} {Q : Exit → Act → World → Prop} {S : World → Prop} {id l n : Nat} {a : Act} {w : World} (hnd : ∀ (i : Nat) (o : Oper) c, ops[i]? = some o → o.op ≠ Op.defer c) (hQ : ¬ LetsOut Q) (hm : P.follows .mixedOrders = true) (hS : S w.drew)
    (h : S w.drew → wpAnyH P .any ops Q S ops.size (Array.replicate ops.size false) a w.drew) : (Code.region id ops true).wpIn (Fence.wide.inRound l) n P Q a w :=
  wpIn_region_draw fun t => by
    simp only [Region.schedule, hm, Bool.true_or, if_true]
    exact wpOpsIn_of_wpOps l n hnd hQ _ _ _ (wpAny_sound ops.size t _ a _ (wpAny_of_held _ _ _ _ (h hS)))

/-- no operation of a region that is written out is a defer statement -/
def plainOps (ops : Array Oper) : Bool := ops.toList.all fun o => match o.op with | .defer _ => false | _ => true
theorem plain_ops {ops : Array Oper} (h : plainOps ops = true) : ∀ (i : Nat) (o : Oper) c, ops[i]? = some o → o.op ≠ Op.defer c := by
  intro i o c ho e
  unfold plainOps at h
  rw [List.all_eq_true] at h
  have hm : o ∈ ops.toList := by
    rw [← Array.getElem?_toList] at ho
    exact List.mem_of_getElem? ho
  have := h o hm
  rw [e] at this
  cases this

/-! ### An append that has room -/
end Go.Proofs.YthhihdihkddakaaGreatDoor
