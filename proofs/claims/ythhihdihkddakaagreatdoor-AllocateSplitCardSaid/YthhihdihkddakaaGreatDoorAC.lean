/- slices.SortStableFunc of places by their remainders, at 19 places or fewer; allocate.ordered: the walks. -/
import Derived.Test.YthhihdihkddakaaGreatDoorAB
import Derived.Deep.LoopGhost
import Derived.Deep.RegionHeld3
namespace Go.Proofs.YthhihdihkddakaaGreatDoor
open Go.RowKit Go.Shelf

/-- the remainders lie in block R, and box B holds their slice -/
structure Rems (W : World) (B R n : Nat) (r : Nat → Nat) : Prop where
  box : W.cell? ⟨B, 0, none⟩ = some (.slice (some ⟨R, 0, none⟩) n n)
  row : RowC W R 22 n fun k => .string (cS (r k : Nat))
  few : n ≤ 2000
  size : ∀ k, k < n → (cS (r k : Nat)).size ≤ 4294967295
theorem Rems.below {β : Nat} {W W' : World} {B R n : Nat} {r : Nat → Nat} (h : Rems W B R n r) (hb : Below β W W') (h1 : B < β) (h2 : R < β) : Rems W' B R n r :=
  ⟨(hb.cell (p := ⟨B, 0, none⟩) h1).trans h.box, h.row.below hb h2, h.few, h.size⟩

set_option maxRecDepth 100000 in
set_option maxHeartbeats 4000000 in
theorem aByRem (W : World) (B R n i j : Nat) (r : Nat → Nat) (h : Rems W B R n r) (hi : i < n) (hj : j < n) :
    Calls Tryz.prog 103 #[.int .i64 (i : Int), .int .i64 (j : Int), .pointer (some ⟨B, 0, none⟩)] W fun e W' =>
      (∃ c : Int, e = .returned (.int .i64 c) ∧ decide (c < 0) = decide (r j < r i)) ∧ Below W.heap.size W W' := by
  have hn := h.few
  obtain ⟨c, hc⟩ : ∃ c, cmp3 (r j : Int) (r i : Int) = c := ⟨_, rfl⟩
  have HD := Lib.hid (show decide (c < 0) = decide (r j < r i) by
    rw [← hc]
    unfold cmp3
    split
    · rw [decide_eq_true (by decide), decide_eq_true (by omega)]
    · split
      · rw [decide_eq_false (by decide), decide_eq_false (by omega)]
      · rw [decide_eq_false (by decide), decide_eq_false (by omega)])
  have HC := Lib.hid (fun W => compare_v W (h.size j hj) (h.size i hi) (vS_cS _) (vS_cS _) hc)
  have l1 := h.box
  have lB : B < W.heap.size := World.block_lt_of_cell? W ⟨B, 0, none⟩ h.box
  have lR : R < W.heap.size := h.row.lt
  have l2 := h.row.cell hi
  have l3 := h.row.cell hj
  obtain ⟨si, hsi⟩ : ∃ s, cS (r i : Nat) = s := ⟨_, rfl⟩
  obtain ⟨sj, hsj⟩ : ∃ s, cS (r j : Nat) = s := ⟨_, rfl⟩
  simp only [hsi, hsj] at l2 l3 HC
  clear h hc hsi hsj
  go_enter Tryz.func103, Tryz.ntmps103
  go_wp2_with fail
  go_region_held3 (fun w' => w'.cell? ⟨B, 0, none⟩ = some (.slice (some ⟨R, 0, none⟩) n n) ∧ w'.cell? ⟨R, i, none⟩ = some (.string si) ∧ w'.cell? ⟨R, j, none⟩ = some (.string sj))
    (go_keep)
    (first
    | (go_at_call 33;
         (refine (HC.out _).mono ?_);
         (rintro e WX ⟨rfl, hB1⟩);
         (have m1 := (hB1.cell (p := ⟨B, 0, none⟩) lB).trans l1);
         (have m2 := (hB1.cell (p := ⟨R, i, none⟩) lR).trans l2);
         (have m3 := (hB1.cell (p := ⟨R, j, none⟩) lR).trans l3);
         (have HB1 := Lib.hid hB1);
         (clear hB1)))
  all_goals go_wp2_with fail
  all_goals go_ret
  all_goals exact ⟨⟨c, rfl, HD.out⟩, by first | exact HB1.out | exact (below_drewN (Below.refl _ _) _).trans (HB1.out.mono (Nat.le_refl _))⟩

/-- the places in block D, all that lay below it as it lay -/
structure SortW (w : World) (D n : Nat) (d : Nat → Nat) (wr : World) : Prop where
  row : RowC wr D 3 n fun k => .int .i64 (d k : Nat)
  below : Below D w wr
theorem SortW.next {w : World} {D n : Nat} {d : Nat → Nat} {wr wx : World} (h : SortW w D n d wr) (hb : Below wr.heap.size wr wx) : SortW w D n d wx :=
  ⟨h.row.below hb h.row.lt, h.below.trans (hb.mono (Nat.le_of_lt h.row.lt))⟩
theorem SortW.drewN {w : World} {D n : Nat} {d : Nat → Nat} {wr : World} (h : SortW w D n d wr) (q : Nat) : SortW w D n d (wr.drewN q) := ⟨h.row, below_drewN h.below q⟩
/-- d, with what stands at j and at j + 1 exchanged -/
def swp2 (d : Nat → Nat) (j : Nat) : Nat → Nat := fun p => if p = j then d (j + 1) else if p = j + 1 then d j else d p
theorem SortW.swap {w : World} {D n : Nat} {d : Nat → Nat} {wr : World} (h : SortW w D n d wr) (j : Nat) :
    SortW w D n (swp2 d j) ((wr.setCell ⟨D, j + 1, none⟩ (.int .i64 (d j : Nat))).setCell ⟨D, j, none⟩ (.int .i64 (d (j + 1) : Nat))).drew := by
  refine ⟨?_, ?_⟩
  · show RowC _ D 3 n _
    have h1 := (h.row.set (j + 1) (.int .i64 (d j : Nat))).set j (.int .i64 (d (j + 1) : Nat))
    refine RowC.congr (w := (wr.setCell ⟨D, j + 1, none⟩ (.int .i64 (d j : Nat))).setCell ⟨D, j, none⟩ (.int .i64 (d (j + 1) : Nat))) h1 fun k _ => ?_
    unfold swp2 upd
    by_cases e : k = j
    · rw [if_pos e, if_pos e]
    · rw [if_neg e, if_neg e]
      by_cases f : k = j + 1
      · rw [if_pos f, if_pos f]
      · rw [if_neg f, if_neg f]
  · exact below_drewN (((h.below.setCell (p := ⟨D, j + 1, none⟩) (Nat.le_refl _) _).setCell (p := ⟨D, j, none⟩) (Nat.le_refl _) _)) 1

set_option maxRecDepth 1000000 in
set_option maxHeartbeats 16000000 in
theorem aInsert (w : World) (D B R n : Nat) (r : Nat → Nat) (h : Rems w B R n r) (hn1 : 1 ≤ n) (hBD : B < D) (hRD : R < D) (hD : SortW w D n (fun k => k) w) :
    Calls Tryz.prog 188 #[.slice (some ⟨D, 0, none⟩) n n, .int .i64 0, .int .i64 (n : Int), .func (.func 103) #[] #[.pointer (some ⟨B, 0, none⟩)]] w fun e w' =>
      e = .returned (.tuple #[]) ∧ ∃ d, Num.Sorted r n d ∧ SortW w D n d w' := by
  have hn := h.few
  have HR := Lib.hid h
  have S0 := Lib.hid hD
  have mixed : Tryz.prog.follows .mixedOrders = true := by kernel_rfl
  clear h hD
  go_enter Tryz.func188, Tryz.ntmps188
  go_wp2
  go_loopg [8] n (fun g1 vi wr => ∃ (i : Nat) (d : Nat → Nat), vi = .int .i64 i ∧ 1 ≤ i ∧ i ≤ n ∧ n + 1 - i ≤ g1 + 1 ∧ Hid (Num.Outer r n i d) ∧ Hid (SortW w D n d wr))
  case atStart => exact ⟨1, fun k => k, by go_num, by omega, by omega, by omega, Lib.hid (Num.Outer.start r n), S0⟩
  case round =>
    clear S0
    obtain ⟨i, d0, rfl, hi1, hin, hg1, HO, S1⟩ := hrel
    by_cases hlt : i < n
    · have hltz : (i : Int) < (n : Int) := by omega
      have HI0 := Lib.hid (HO.out.inner hlt)
      go_wp2
      go_loopg [9] i (fun g2 vj wr2 => ∃ (j : Nat) (d : Nat → Nat), vj = .int .i64 j ∧ j ≤ i ∧ j ≤ g2 ∧ Hid (Num.Inner r n i j d) ∧ Hid (SortW w D n d wr2))
      case atStart => exact ⟨i, d0, rfl, Nat.le_refl _, Nat.le_refl _, HI0, S1⟩
      case round =>
        clear S1 HI0
        obtain ⟨j, d, rfl, hji, hg2, HI, SJ⟩ := hrel
        by_cases hja : 0 < j
        · obtain ⟨jp, rfl⟩ : ∃ q, j = q + 1 := ⟨j - 1, by omega⟩
          have e1 : (((jp + 1 : Nat) : Int)) = (jp : Int) + 1 := by omega
          have pa : (0 : Int) ≤ (jp : Int) + 1 := by omega
          have pg : (0 : Int) < (jp : Int) + 1 := by omega
          have ba : (jp : Int) + 1 < (n : Int) := by omega
          have wa : IntKind.i64.wrap ((jp : Int) + 1 - 1) = (jp : Int) := by rw [IntKind.wrap_i64]; omega
          have wc : IntKind.i64.wrap (jp : Int) = (jp : Int) := by rw [IntKind.wrap_i64]; omega
          have pc : (0 : Int) ≤ (jp : Int) := by omega
          have bc : (jp : Int) < (n : Int) := by omega
          obtain ⟨iN, hiN⟩ : ∃ q, q = jp + 1 := ⟨_, rfl⟩
          have ea : ((jp : Int) + 1).toNat = iN := by omega
          obtain ⟨x, hx⟩ : ∃ x, d (jp + 1) = x := ⟨_, rfl⟩
          obtain ⟨y, hy⟩ : ∃ y, d jp = y := ⟨_, rfl⟩
          have hxi : x = i := by rw [← hx]; exact HI.out.at_
          have hyi : y < i := by rw [← hy]; exact HI.out.lt jp (by omega) (by omega)
          have HC := Lib.hid (fun W hR => aByRem W B R n x y r hR (by omega) (by omega))
          have c1 := SJ.out.row.cell (i := jp + 1) (by omega)
          have c2 := SJ.out.row.cell (i := jp) (by omega)
          have lD := SJ.out.row.lt
          rw [hx, ← hiN] at c1
          rw [hy] at c2
          have HX := Lib.hid hx
          have HY := Lib.hid hy
          have HN := Lib.hid hiN
          have HXI := Lib.hid hxi
          have HR2 := Lib.hid (fun q => (HR.out.below (SJ.out.drewN q).below hBD hRD))
          have HR3 := Lib.hid (HR.out.below SJ.out.below hBD hRD)
          clear hx hy hiN hxi hyi
          by_cases ht : r y < r x
          · have HT := Lib.hid ht
            go_wp2_with fail
            go_region_held3 (fun w' => w'.cell? ⟨D, iN, none⟩ = some (.int .i64 x) ∧ w'.cell? ⟨D, jp, none⟩ = some (.int .i64 y))
              (go_keep)
              (first
              | (go_at_call 103;
                   (first | refine (HC.out _ HR3.out).mono ?_ | refine (HC.out _ (HR2.out _)).mono ?_);
                   (rintro e WX ⟨⟨c, rfl, hcd⟩, hB1⟩);
                   (have m1 := (hB1.cell (p := ⟨D, iN, none⟩) lD).trans c1);
                   (have m2 := (hB1.cell (p := ⟨D, jp, none⟩) lD).trans c2);
                   (rw [decide_eq_true HT.out] at hcd);
                   (have hcl : c < 0 := of_decide_eq_true hcd);
                   (have S2 := Lib.hid (show SortW w D n d WX from by first | exact SJ.out.next hB1 | exact (SJ.out.drewN _).next hB1));
                   (clear hB1)))
            have HS := Lib.hid (HI.out.swap (by rw [HY.out, ← HXI.out]; exact ht))
            have S3 := S2.out.swap jp
            rw [HX.out, HY.out, ← HN.out] at S3
            have HS3 := Lib.hid S3
            have f1 := S2.out.row.frozen iN
            have f2 := S2.out.row.frozen jp
            have c3 := (World.cell?_setCell_other WX ⟨D, iN, none⟩ ⟨D, jp, none⟩ (.int .i64 (y : Int)) (by intro e; simp only [Addr.mk.injEq] at e; have := HN.out; omega)).trans m2
            clear c1 c2 ht hcd S3 HC HR2 HR3
            go_wp2_with fail
            go_big_region_o
            clear m1 m2 f1 f2 c3 S2
            revert HS3
            generalize ((WX.setCell ⟨D, iN, none⟩ (.int .i64 (y : Int))).setCell ⟨D, jp, none⟩ (.int .i64 (x : Int))).drew = w3
            intro HS3
            clear ea
            go_wp2
            go_roundg jp
            case measure => omega
            case rel => exact ⟨jp, swp2 d jp, by first | rfl | go_num | (congr 1; omega), by omega, Nat.le_refl _, HS, HS3⟩
          · have HT := Lib.hid ht
            go_wp2_with fail
            go_region_held3 (fun w' => w'.cell? ⟨D, iN, none⟩ = some (.int .i64 x) ∧ w'.cell? ⟨D, jp, none⟩ = some (.int .i64 y))
              (go_keep)
              (first
              | (go_at_call 103;
                   (first | refine (HC.out _ HR3.out).mono ?_ | refine (HC.out _ (HR2.out _)).mono ?_);
                   (rintro e WX ⟨⟨c, rfl, hcd⟩, hB1⟩);
                   (have m1 := (hB1.cell (p := ⟨D, iN, none⟩) lD).trans c1);
                   (have m2 := (hB1.cell (p := ⟨D, jp, none⟩) lD).trans c2);
                   (rw [decide_eq_false HT.out] at hcd);
                   (have hcl : ¬ c < 0 := of_decide_eq_false hcd);
                   (have S2 := Lib.hid (show SortW w D n d WX from by first | exact SJ.out.next hB1 | exact (SJ.out.drewN _).next hB1));
                   (clear hB1)))
            have HS := Lib.hid (HI.out.done (fun k hk => by have e : k = jp := (by omega); rw [e, HY.out, ← HXI.out]; exact ht))
            clear m1 m2 c1 c2 ht hcd HC HR2 HR3 ea
            go_wp2
            go_roundg (n - (i + 1))
            case measure => omega
            case rel => exact ⟨i + 1, d, by go_num, by omega, by omega, by omega, HS, S2⟩
        · obtain rfl : j = 0 := by omega
          go_wp2_with fail
          go_big_region_o
          have HS := Lib.hid (HI.out.done (fun k hk => by omega))
          have S2 := Lib.hid (SJ.out.drewN 1)
          clear SJ
          go_wp2
          go_roundg (n - (i + 1))
          case measure => omega
          case rel => exact ⟨i + 1, d, by go_num, by omega, by omega, by omega, HS, S2⟩
    · obtain rfl : i = n := by omega
      have hltz : ¬ (i : Int) < (i : Int) := by omega
      go_wp2
      go_end0
      exact ⟨rfl, d0, HO.out.sorted (Nat.le_refl _) (Nat.le_refl _), S1.out⟩

end Go.Proofs.YthhihdihkddakaaGreatDoor

/- slices.stableCmpFunc, SortStableFunc at 19 places or fewer; allocate.ordered: the walks. -/
namespace Go.Proofs.YthhihdihkddakaaGreatDoor
open Go.RowKit Go.Shelf

set_option maxRecDepth 100000 in
set_option maxHeartbeats 4000000 in
theorem aStable (w : World) (D B R n : Nat) (r : Nat → Nat) (h : Rems w B R n r) (hn1 : 1 ≤ n) (hn19 : n ≤ 19) (hBD : B < D) (hRD : R < D) (hD : SortW w D n (fun k => k) w) :
    Calls Tryz.prog 175 #[.slice (some ⟨D, 0, none⟩) n n, .int .i64 (n : Int), .func (.func 103) #[] #[.pointer (some ⟨B, 0, none⟩)]] w fun e w' =>
      e = .returned (.tuple #[]) ∧ ∃ d, Num.Sorted r n d ∧ SortW w D n d w' := by
  have HI := Lib.hid (aInsert w D B R n r h hn1 hBD hRD hD)
  have h1 : ¬ (20 : Int) ≤ (n : Int) := by omega
  have h2 : ¬ (20 : Int) < (n : Int) := by omega
  clear h hD
  go_enter Tryz.func175, Tryz.ntmps175
  go_wp2
  go_loopw [7, 8] (fun a b wr => a = .int .i64 0 ∧ b = .int .i64 20 ∧ wr = w) (fun _ _ _ => 0)
  case atStart => exact ⟨rfl, rfl, rfl⟩
  case round =>
    obtain ⟨rfl, rfl, rfl⟩ := hrel
    go_wp2_with fail
    refine HI.out.mono ?_
    rintro _ w1 ⟨rfl, d, hd, hs⟩
    have HD := Lib.hid hd
    have HS := Lib.hid hs
    clear hd hs HI
    go_wp2
    go_loopw [6, 7, 8, 9] (fun bs _ _ _ wr => bs = .int .i64 20 ∧ wr = w1) (fun _ _ _ _ _ => 0)
    case atStart => exact ⟨rfl, rfl⟩
    case round =>
      obtain ⟨rfl, rfl⟩ := hrel
      go_wp2
      go_end0
      exact ⟨rfl, d, HD.out, HS.out⟩

set_option maxRecDepth 100000 in
set_option maxHeartbeats 4000000 in
theorem aSorts (w : World) (D B R n : Nat) (r : Nat → Nat) (h : Rems w B R n r) (hn1 : 1 ≤ n) (hn19 : n ≤ 19) (hBD : B < D) (hRD : R < D) (hD : SortW w D n (fun k => k) w) :
    Calls Tryz.prog 149 #[.slice (some ⟨D, 0, none⟩) n n, .func (.func 103) #[] #[.pointer (some ⟨B, 0, none⟩)]] w fun e w' =>
      e = .returned (.tuple #[]) ∧ ∃ d, Num.Sorted r n d ∧ SortW w D n d w' := by
  have HI := Lib.hid (aStable w D B R n r h hn1 hn19 hBD hRD hD)
  clear h hD
  go_enter Tryz.func149, Tryz.ntmps149
  go_wp2_with fail
  refine HI.out.mono ?_
  rintro _ w1 ⟨rfl, d, hd, hs⟩
  go_wp2
  go_end0
  exact ⟨rfl, d, hd, hs⟩

theorem RowC.int_made (w : World) (n : Nat) : RowC (w.alloc (zeroRow n)) w.heap.size 3 n fun _ => .int .i64 0 := RowC.made w 3 (.int .i64 0) n

set_option maxRecDepth 100000 in
set_option maxHeartbeats 4000000 in
theorem aOrdered (w : World) (B R n : Nat) (r : Nat → Nat) (h : Rems w B R n r) (hn1 : 1 ≤ n) (hn19 : n ≤ 19) :
    Calls Tryz.prog 105 #[.int .i64 (n : Int), .func (.func 103) #[] #[.pointer (some ⟨B, 0, none⟩)]] w fun e w' =>
      ∃ d D, e = .returned (.slice (some ⟨D, 0, none⟩) n n) ∧ w.heap.size ≤ D ∧ Num.Sorted r n d ∧ (RowC w' D 3 n fun k => .int .i64 (d k : Nat)) ∧ Below w.heap.size w w' := by
  have hmake := run_makeInts n (by omega)
  have lB : B < w.heap.size := World.block_lt_of_cell? w ⟨B, 0, none⟩ h.box
  have lR : R < w.heap.size := h.row.lt
  have HR := Lib.hid h
  clear h
  obtain ⟨D, hD⟩ : ∃ D, w.heap.size = D := ⟨_, rfl⟩
  have hr0 : RowC (w.alloc (zeroRow n)) D 3 n fun k => .int .i64 ((if k < 0 then k else 0 : Nat) : Int) := by
    rw [← hD]
    exact (RowC.int_made w n).congr fun k _ => by rw [if_neg (by omega)]; rfl
  have HR0 := Lib.hid hr0
  have HB0 := Lib.hid (show Below D w (w.alloc (zeroRow n)) from (Below.refl _ _).alloc (by omega) _)
  clear hr0
  go_enter Tryz.func105, Tryz.ntmps105
  go_wp2_with fail
  go_loopw [11] (fun iv wr => ∃ k : Nat, k ≤ n ∧ iv = .int .i64 (k : Int) ∧ Hid (RowC wr D 3 n fun j => .int .i64 ((if j < k then j else 0 : Nat) : Int)) ∧ Hid (Below D w wr)) (fun iv _ => n - (intOf iv).toNat)
  case atStart => exact ⟨0, Nat.zero_le _, rfl, HR0, HB0⟩
  case round =>
    clear HR0 HB0
    obtain ⟨k, hk, rfl, hrow, hB⟩ := hrel
    by_cases hlt : k < n
    · have c1 := hrow.out.cell hlt
      have f1 := hrow.out.frozen k
      have HN := Lib.hid (show RowC (wr.setCell ⟨D, k, none⟩ (.int .i64 (k : Int))) D 3 n fun j => .int .i64 ((if j < k + 1 then j else 0 : Nat) : Int) from (hrow.out.set k (.int .i64 (k : Int))).congr fun j _ => by
        unfold upd
        by_cases e : j = k
        · rw [if_pos (by omega), if_pos e, e]
        · rw [if_neg e]
          dsimp only
          by_cases f : j < k
          · rw [if_pos f, if_pos (by omega)]
          · rw [if_neg f, if_neg (by omega)])
      have HBN := Lib.hid (hB.out.setCell (p := ⟨D, k, none⟩) (Nat.le_refl _) (.int .i64 (k : Int)))
      go_wp2_with fail
      go_roundw
      case rel => exact ⟨k + 1, by omega, by simp, HN, HBN⟩
      case measure => simp [intOf]; omega
    · obtain rfl : k = n := by omega
      have HS := Lib.hid (aSorts wr D B R k r (HR.out.below hB.out (by omega) (by omega)) hn1 hn19 (by omega) (by omega) ⟨hrow.out.congr fun j hj => by rw [if_pos hj], Below.refl _ _⟩)
      go_wp2_with fail
      refine HS.out.mono ?_
      rintro _ w1 ⟨rfl, d, hd, hs⟩
      go_wp2_with fail
      go_ret
      exact ⟨d, D, rfl, by omega, hd, hs.row, by rw [hD]; exact hB.out.trans hs.below⟩

end Go.Proofs.YthhihdihkddakaaGreatDoor
