/- The reference of layer 4: Split: the walk. -/
import Derived.Test.YthhihdihkddakaaGreatDoorZShN
import Derived.Test.YthhihdihkddakaaGreatDoorZShP
import Derived.Test.YthhihdihkddakaaGreatDoorZShQ
import Derived.Test.YthhihdihkddakaaGreatDoorZShR
import Derived.Test.YthhihdihkddakaaGreatDoorZShS
namespace Go.Proofs.YthhihdihkddakaaGreatDoor
open Go.RowKit Fra

/-- the parts and the rests as they are being made -/
structure SplSt (w : World) (P R n : Nat) (p u v : Nat → ByteArray) (W : World) : Prop where
  pr : RowC W P 22 n fun i => .string (p i)
  rr : RowC W R 36 (n * 2) (pairC u v)
  below : Below w.heap.size w W
theorem SplSt.next {w : World} {P R n : Nat} {p u v : Nat → ByteArray} {W W' : World} (h : SplSt w P R n p u v W) (hb : Below W.heap.size W W') : SplSt w P R n p u v W' :=
  ⟨h.pr.below hb h.pr.lt, h.rr.below hb h.rr.lt, h.below.trans (hb.mono h.below.size)⟩
theorem SplSt.drewN {w : World} {P R n : Nat} {p u v : Nat → ByteArray} {W : World} (h : SplSt w P R n p u v W) (q : Nat) : SplSt w P R n p u v (W.drewN q) := ⟨h.pr, h.rr, below_drewN h.below q⟩
theorem SplSt.drew {w : World} {P R n : Nat} {p u v : Nat → ByteArray} {W : World} (h : SplSt w P R n p u v W) : SplSt w P R n p u v W.drew := h.drewN 1
theorem SplSt.congr {w : World} {P R n : Nat} {p u v p' u' v' : Nat → ByteArray} {W : World} (h : SplSt w P R n p u v W) (h1 : ∀ i, i < n → p' i = p i) (h2 : ∀ i, i < n → u' i = u i) (h3 : ∀ i, i < n → v' i = v i) : SplSt w P R n p' u' v' W :=
  ⟨h.pr.congr fun i hi => by rw [h1 i hi], h.rr.congr fun i hi => by
    have := h2 (i / 2) (by omega)
    have := h3 (i / 2) (by omega)
    unfold pairC
    split <;> simp [*], h.below⟩
theorem SplSt.setP {w : World} {P R n : Nat} {p u v : Nat → ByteArray} {W : World} (h : SplSt w P R n p u v W) (hP : w.heap.size ≤ P) (h1 : R ≠ P) (i : Nat) (x : ByteArray) : SplSt w P R n (upd p i x) u v (W.setCell ⟨P, i, none⟩ (.string x)) :=
  ⟨(h.pr.set i (.string x)).congr fun k _ => by unfold upd; split <;> rfl, h.rr.setOther (a := ⟨P, i, none⟩) h1 _, h.below.setCell (p := ⟨P, i, none⟩) hP _⟩
theorem SplSt.setR {w : World} {P R n : Nat} {p u v : Nat → ByteArray} {W : World} (h : SplSt w P R n p u v W) (hR : w.heap.size ≤ R) (h1 : P ≠ R) (i : Nat) (x y : ByteArray) : SplSt w P R n p (upd u i x) (upd v i y) ((W.setCell ⟨R, i * 2, none⟩ (.string x)).setCell ⟨R, i * 2 + 1, none⟩ (.string y)) :=
  ⟨(h.pr.setOther (a := ⟨R, i * 2, none⟩) h1 _).setOther (a := ⟨R, i * 2 + 1, none⟩) h1 _, ((h.rr.set (i * 2) (.string x)).set (i * 2 + 1) (.string y)).congr fun k hk => pairC_set u v i x y k hk,
    (h.below.setCell (p := ⟨R, i * 2, none⟩) hR _).setCell (p := ⟨R, i * 2 + 1, none⟩) hR _⟩
theorem SplSt.cells {w : World} {P R n : Nat} {p u v : Nat → ByteArray} {W : World} (h : SplSt w P R n p u v W) {i : Nat} (hi : i < n) : W.cell? ⟨R, i * 2, none⟩ = some (.string (u i)) ∧ W.cell? ⟨R, i * 2 + 1, none⟩ = some (.string (v i)) := by
  obtain ⟨b, o, e, _, h1, h2⟩ := (RowC.rf h.rr).at hi
  cases e
  rw [Nat.zero_add] at h1 h2
  exact ⟨h1, h2⟩

set_option maxRecDepth 1000000 in
set_option maxHeartbeats 16000000 in
theorem rSplit_gen (w : World) (hG : Ground w) (t : ByteArray) (xa : Option Addr) (n cap : Nat) (s : Nat → ByteArray) (hr : Rs w xa n s) (hf : FitQ n t s) (h : weighE t n s = 0) (ht30 : t.size ≤ 30) (hWs : Num.sumN (wtN s) n < 10 ^ 80) :
    Calls Tryz.prog 15 #[.string t, .slice xa n cap] w fun e w' => ∃ P, e = .returned (.tuple #[.slice (some ⟨P, 0, none⟩) n n, .int .i64 0]) ∧ (RowC w' P 22 n fun i => .string (cS (Num.splitP (vS t) (Num.sumN (wtN s) n) (wtN s) n i))) ∧ Below w.heap.size w w' := by
  have hgd := weighE_zero h
  have hd := hgd.data hf.fitW
  obtain ⟨c, hc1, hdiv⟩ := hd.divc
  have hn0 := hgd.pos
  have hn := hdiv.few
  have HW := Lib.hid (rIdeal_ok w hG t xa n cap s hr hf h)
  have HRD := Lib.hid (rs_data (t := t) (T := vS t) (A := (vS t).natAbs) (n := n) (W := Num.sumN (wtN s) n) (wt := wtN s) hd.total ht30 rfl hn0 hn rfl hdiv.w0 hWs)
  have HG := Lib.hid hG
  obtain ⟨T, hT⟩ : ∃ T, vS t = T := ⟨_, rfl⟩
  obtain ⟨W, hW⟩ : ∃ W, Num.sumN (wtN s) n = W := ⟨_, rfl⟩
  obtain ⟨wt, hwt⟩ : ∃ wt, wtN s = wt := ⟨_, rfl⟩
  rw [hT, hW, hwt] at HW HRD ⊢
  obtain ⟨A, hA⟩ : ∃ A, T.natAbs = A := ⟨_, rfl⟩
  rw [hA] at HRD
  have HAA := Lib.hid hA
  have hmk1 := run_makeStrs n (by omega)
  have hmk2 := run_makeFracs n (by omega)
  clear hgd hd hdiv hr hf h hG hT hW hwt hc1 hWs ht30 hA
  go_enter Tryz.func15, Tryz.ntmps15
  go_wp2_with fail
  refine HW.out.mono ?_
  rintro _ w1 ⟨za, cz, hcz, rfl, hz, hB0⟩
  have HZ := Lib.hid hz
  have HBW := Lib.hid hB0
  have HG1 := Lib.hid (HG.out.below hB0)
  clear hz hB0 hcz HW
  go_upto_region 5 with fail
  go_cut [9, 10] (fun s9 s10 wx => ∃ P R : Nat, s9 = .slice (some ⟨P, 0, none⟩) n n ∧ s10 = .slice (some ⟨R, 0, none⟩) n n ∧ P ≠ R ∧ w1.heap.size ≤ P ∧ w1.heap.size ≤ R ∧ SplSt w1 P R n (fun _ => ⟨#[]⟩) (fun _ => ⟨#[]⟩) (fun _ => ⟨#[]⟩) wx)
  case first =>
    go_region_held3 (fun _ => True)
      (trivial)
      (fail)
    all_goals go_wp2_with fail
    all_goals go_meet
    · refine ⟨_, _, rfl, rfl, by omega, by omega, by omega, (RowC.made w1 22 (.string ⟨#[]⟩) n).alloc _, ?_, ?_⟩
      · have := RowC.made2 (w1.alloc (.cells (madeCells #[.string ⟨#[]⟩] n) 22)) 36 n
        rw [World.size_alloc] at this
        exact this
      · exact below_drew (((Below.refl _ w1).alloc (Nat.le_refl _) _).alloc (by rw [World.size_alloc]; omega) _)
    · refine ⟨_, _, rfl, rfl, by omega, by omega, by omega, ?_, (RowC.made2 w1 36 n).alloc _, ?_⟩
      · have := RowC.made (w1.alloc (.cells (madeCells #[.string ⟨#[]⟩, .string ⟨#[]⟩] (n * 2)) 36)) 22 (.string ⟨#[]⟩) n
        rw [World.size_alloc] at this
        exact this
      · exact below_drew (((Below.refl _ w1).alloc (Nat.le_refl _) _).alloc (by rw [World.size_alloc]; omega) _)
  obtain ⟨P, R, rfl, rfl, hPR, hwP, hwR, hS⟩ := hcut
  obtain ⟨w2, hw2⟩ : ∃ W, W = wc := ⟨_, rfl⟩
  rw [← hw2] at hS
  rw [← hw2]
  clear hw2
  have hRP : R ≠ P := fun e => hPR e.symm
  obtain ⟨qN, hqN⟩ : ∃ qN : Nat → ByteArray, (fun i => cS (Num.quoP A W wt i : Nat)) = qN := ⟨_, rfl⟩
  have HQN := Lib.hid hqN
  have HS0 := Lib.hid (hS.congr (p' := upto qN 0) (u' := upto (rN A W wt n 0) 0) (v' := upto (rD A W wt n 0) 0) (fun i _ => if_neg (by omega)) (fun i _ => if_neg (by omega)) (fun i _ => if_neg (by omega)))
  clear hS hqN
  go_wp2_with fail
  go_loopw [11] (fun iv wr => ∃ k : Nat, k ≤ n ∧ iv = .int .i64 (k : Int) ∧ Hid (SplSt w1 P R n (upto qN k) (upto (rN A W wt n 0) k) (upto (rD A W wt n 0) k) wr)) (fun iv _ => n - (intOf iv).toNat)
  case atStart => exact ⟨0, Nat.zero_le _, rfl, HS0⟩
  case round =>
    clear HS0
    obtain ⟨k, hk, rfl, HS⟩ := hrel
    have hw1 : IntKind.i64.wrap ((k : Int) + 1) = (k : Int) + 1 := IntWalk.i64_in _ (by omega)
    by_cases hlt : k < n
    · obtain ⟨zb, zo, rfl, hzb, hz1, hz2⟩ := Rf.at (HZ.out.belowAt HS.out.below (Nat.le_refl _)) hlt
      have H1 := Lib.hid (HRD.out.fabs k hlt)
      have H2 := Lib.hid (HRD.out.fflo k hlt)
      have H3 := Lib.hid (HRD.out.fof k hlt)
      have H4 := Lib.hid (HRD.out.fsub k hlt)
      rw [show cS (Num.quoP A W wt k : Nat) = qN k by rw [← HQN.out]] at H2 H3 H4
      obtain ⟨un, hun⟩ : ∃ x, idN T W wt k = x := ⟨_, rfl⟩
      obtain ⟨ud, hud⟩ : ∃ x, idD T W wt k = x := ⟨_, rfl⟩
      obtain ⟨xn, hxn⟩ : ∃ x, xN A W wt k = x := ⟨_, rfl⟩
      obtain ⟨xd, hxd⟩ : ∃ x, xD A W wt k = x := ⟨_, rfl⟩
      obtain ⟨qk, hqk⟩ : ∃ x, qN k = x := ⟨_, rfl⟩
      obtain ⟨rn, hrn⟩ : ∃ x, rN A W wt n 0 k = x := ⟨_, rfl⟩
      obtain ⟨rd, hrd⟩ : ∃ x, rD A W wt n 0 k = x := ⟨_, rfl⟩
      rw [hun, hud, hxn, hxd] at H1
      rw [hxn, hxd, hqk] at H2
      rw [hqk] at H3
      rw [hxn, hxd, hqk, hrn, hrd] at H4
      rw [hun] at hz1
      rw [hud] at hz2
      have HQK := Lib.hid hqk
      have HRN := Lib.hid hrn
      have HRDD := Lib.hid hrd
      clear hun hud hxn hxd hqk hrn hrd hzb
      go_wp2_with fail
      refine Calls.mono (Ret.call H1.out _ (HG1.out.below HS.out.below)) ?_
      rintro _ w3 ⟨rfl, hB⟩
      have hS3 := HS.out.next hB
      clear hB HS hz1 hz2
      go_upto_region 10 with fail
      obtain ⟨X, hX⟩ : ∃ X, w3.heap.size = X := ⟨_, rfl⟩
      obtain ⟨W4, hW4⟩ : ∃ W4, W4 = w3.alloc (.cells #[.string xn, .string xd] 36) := ⟨_, rfl⟩
      have hBX : PairAt W4 X 36 xn xd := by rw [hW4, ← hX]; exact PairAt.made _ _ _ _
      have hXP : X ≠ P := by have := hS3.pr.lt; omega
      have hRX : R ≠ X := by have := hS3.rr.lt; omega
      have hPX : P ≠ X := fun e => hXP e.symm
      have hS4 : SplSt w1 P R n (upto qN k) (upto (rN A W wt n 0) k) (upto (rD A W wt n 0) k) W4 := by rw [hW4]; exact hS3.next ((Below.refl _ _).alloc (Nat.le_refl _) _)
      rw [← hW4, hX]
      clear hW4 hX hS3
      obtain ⟨k0, k1, _, _⟩ := hBX.cells
      have HBX := Lib.hid hBX
      have HS4 := Lib.hid hS4
      clear hBX hS4
      go_wp2_with fail
      refine Calls.mono (Ret.call H2.out _ (HG1.out.below HS4.out.below)) ?_
      rintro _ w5 ⟨rfl, hB⟩
      have HBX5 := Lib.hid (HBX.out.below hB)
      have HS5 := Lib.hid (HS4.out.next hB)
      have c1 := HS5.out.pr.cell hlt
      have f1 := HS5.out.pr.frozen k
      clear hB k0 k1 HBX HS4
      go_upto_region 11 with fail
      obtain ⟨W6, hW6⟩ : ∃ W6, W6 = w5.setCell ⟨P, k, none⟩ (.string qk) := ⟨_, rfl⟩
      have hS6 : SplSt w1 P R n (upd (upto qN k) k qk) (upto (rN A W wt n 0) k) (upto (rD A W wt n 0) k) W6 := by rw [hW6]; exact HS5.out.setP hwP hRP k qk
      have hBX6 : PairAt W6 X 36 xn xd := by rw [hW6]; exact HBX5.out.setOther hXP _
      rw [← hW6]
      clear hW6 c1 f1 HS5 HBX5
      obtain ⟨k0, k1, _, _⟩ := hBX6.cells
      have k2 := hS6.pr.cell hlt
      rw [upd_same (upto qN k) k qk] at k2
      have HS := Lib.hid hS6
      have HBX := Lib.hid hBX6
      have HB6 := Lib.hid (show Below W6.heap.size W6 W6 from Below.refl _ _)
      have hk2n : k * 2 + 1 < n * 2 := by omega
      clear hS6 hBX6
      go_region_held3 (fun w' => w'.cell? ⟨X, 0, none⟩ = some (.string xn) ∧ w'.cell? ⟨X, 1, none⟩ = some (.string xd) ∧ w'.cell? ⟨P, k, none⟩ = some (.string qk))
          (go_keep)
          (first
          | (go_at_call 54;
                       (with_reducible refine Calls.mono (Ret.call H3.out _ (by first | exact HG1.out.below HS.out.below | exact HG1.out.below HS.out.drew.below | exact HG1.out.below (HS.out.drewN _).below)) ?_);
                       (rintro _ WX ⟨rfl, hB1⟩);
                       (have HS2 : SplSt w1 P R n (upd (upto qN k) k qk) (upto (rN A W wt n 0) k) (upto (rD A W wt n 0) k) WX := (by first | exact HS.out.next hB1 | exact HS.out.drew.next hB1 | exact (HS.out.drewN _).next hB1));
                       (have HS3 := Lib.hid HS2);
                       (have HBX2 := Lib.hid (show PairAt WX X 36 xn xd from by first | exact HBX.out.below hB1 | exact (fun hq => PairAt.below hq hB1) HBX.out));
                       (obtain ⟨k0, k1, _, _⟩ := HBX2.out.cells);
                       (clear HBX);
                       (have HBX := HBX2);
                       (clear HBX2);
                       (have k2 := HS2.pr.cell hlt);
                       (rw [upd_same (upto qN k) k qk] at k2);
                       (clear HS HS2 hB1);
                       (have HS := HS3);
                       (clear HS3))
          | (go_at_call 53;
                       (with_reducible refine Calls.mono (Ret.call H4.out _ (by first | exact HG1.out.below HS.out.below | exact HG1.out.below HS.out.drew.below | exact HG1.out.below (HS.out.drewN _).below)) ?_);
                       (rintro _ WX ⟨rfl, hB1⟩);
                       (have HS2 : SplSt w1 P R n (upd (upto qN k) k qk) (upto (rN A W wt n 0) k) (upto (rD A W wt n 0) k) WX := (by first | exact HS.out.next hB1 | exact HS.out.drew.next hB1 | exact (HS.out.drewN _).next hB1));
                       (have HS3 := Lib.hid HS2);
                       (have HBX2 := Lib.hid (show PairAt WX X 36 xn xd from by first | exact HBX.out.below hB1 | exact (fun hq => PairAt.below hq hB1) HBX.out));
                       (obtain ⟨k0, k1, _, _⟩ := HBX2.out.cells);
                       (clear HBX);
                       (have HBX := HBX2);
                       (clear HBX2);
                       (have k2 := HS2.pr.cell hlt);
                       (rw [upd_same (upto qN k) k qk] at k2);
                       (have c1 := HS2.rr.cell (i := k * 2) (by omega));
                       (have f1 := HS2.rr.frozen (k * 2));
                       (have f2 := HS2.rr.frozen (k * 2 + 1));
                       (have hs1 := HS2.rr.set (k * 2) (.string rn));
                       (have c2 := hs1.cell (i := k * 2 + 1) (by omega));
                       (have f3 := hs1.frozen (k * 2 + 1));
                       (clear hs1);
                       (clear HS HS2 hB1);
                       (have HS := HS3);
                       (clear HS3)))
      all_goals go_wp2_with fail
      all_goals have hfin : ∀ WZ, SplSt w1 P R n (upd (upto qN k) k qk) (upto (rN A W wt n 0) k) (upto (rD A W wt n 0) k) WZ → SplSt w1 P R n (upto qN (k + 1)) (upto (rN A W wt n 0) (k + 1)) (upto (rD A W wt n 0) (k + 1)) ((WZ.setCell ⟨R, k * 2, none⟩ (.string rn)).setCell ⟨R, k * 2 + 1, none⟩ (.string rd)) := fun WZ hZ =>
          (hZ.setR hwR hPR k rn rd).congr (fun i _ => by rw [upto_next, HQK.out]) (fun i _ => by rw [upto_next, HRN.out]) (fun i _ => by rw [upto_next, HRDD.out])
      all_goals clear k0 k1 k2 c1 f1 f2 c2 f3
      all_goals go_roundw
      case rel =>
        refine ⟨k + 1, by omega, by simp, Lib.hid ?_⟩
        first
          | exact hfin _ HS.out
          | exact hfin _ HS.out.drew
          | exact hfin _ (HS.out.drewN _)
          | exact (hfin _ HS.out).drew
          | exact (hfin _ HS.out).drewN _
      case measure => simp [intOf]; omega
    · obtain rfl : k = n := by omega
      have HS1 := Lib.hid (HS.out.congr (p' := fun i => cS (given A W wt k 0 i : Nat)) (u' := rN A W wt k 0) (v' := rD A W wt k 0) (fun i hi => by
        rw [show upto qN k i = qN i from if_pos hi, ← HQN.out]
        unfold given
        rw [if_neg (by omega), Nat.add_zero]) (fun i hi => (if_pos hi).symm) (fun i hi => (if_pos hi).symm))
      have hgiv : ∀ i, i < k → cS (given A W wt k 0 i : Nat) = cS (Num.quoP A W wt i : Nat) := fun i _ => by unfold given; rw [if_neg (by omega), Nat.add_zero]
      have HGV := Lib.hid hgiv
      have HR1 := Lib.hid HRD.out.gof
      have HR2 := Lib.hid HRD.out.gabs
      have HR3 := Lib.hid HRD.out.gflo
      have HR4 := Lib.hid HRD.out.gsum
      have HR5 := Lib.hid HRD.out.gsub
      have HR6 := Lib.hid HRD.out.gsmall
      have hMn := HRD.out.missn
      unfold StrPost at HR4
      obtain ⟨M, hM⟩ : ∃ M, Num.missP A W wt k = M := ⟨_, rfl⟩
      have HMM := Lib.hid hM
      rw [hM] at HR5 HR6 hMn
      obtain ⟨sA, hsA⟩ : ∃ x, cS (A : Nat) = x := ⟨_, rfl⟩
      obtain ⟨sM, hsM⟩ : ∃ x, cS (M : Nat) = x := ⟨_, rfl⟩
      obtain ⟨sQ, hsQ⟩ : ∃ x, cS (Num.sumN (Num.quoP A W wt) k : Nat) = x := ⟨_, rfl⟩
      rw [hsA] at HR2 HR3 HR5
      rw [hsQ] at HR4 HR5
      rw [hsM] at HR5 HR6
      clear HS hgiv hM hsA hsM hsQ
      go_wp2_with fail
      refine Calls.mono (Ret.call HR1.out _ (HG1.out.below HS1.out.below)) ?_
      rintro _ _ ⟨rfl, hB⟩
      have HS2 := Lib.hid (HS1.out.next hB)
      clear HS1 hB
      have HS1 := HS2
      clear HS2
      go_wp2_with fail
      refine Calls.mono (Ret.call HR2.out _ (HG1.out.below HS1.out.below)) ?_
      rintro _ _ ⟨rfl, hB⟩
      have HS2 := Lib.hid (HS1.out.next hB)
      clear HS1 hB
      have HS1 := HS2
      clear HS2
      go_wp2_with fail
      refine Calls.mono (Ret.call HR3.out _ (HG1.out.below HS1.out.below)) ?_
      rintro _ _ ⟨rfl, hB⟩
      have HS2 := Lib.hid (HS1.out.next hB)
      clear HS1 hB
      have HS1 := HS2
      clear HS2
      go_wp2_with fail
      refine (HR4.out _ _ _ (Rs.congr HS1.out.pr.rc (fun i hi => (HGV.out i hi).symm))).mono ?_
      rintro _ _ ⟨rfl, hB⟩
      have HS2 := Lib.hid (HS1.out.next hB)
      clear HS1 hB
      have HS1 := HS2
      clear HS2
      go_wp2_with fail
      refine Calls.mono (Ret.call HR5.out _ (HG1.out.below HS1.out.below)) ?_
      rintro _ _ ⟨rfl, hB⟩
      have HS2 := Lib.hid (HS1.out.next hB)
      clear HS1 hB
      have HS1 := HS2
      clear HS2
      go_wp2_with fail
      refine Calls.mono (Ret.call HR6.out _ (HG1.out.below HS1.out.below)) ?_
      rintro _ _ ⟨rfl, hB⟩
      have HS2 := Lib.hid (HS1.out.next hB)
      clear HS1 hB
      have HS1 := HS2
      clear HS2
      clear HR1 HR2 HR3 HR4 HR5 HR6 HGV
      go_wp2_with fail
      go_loopw [13] (fun mv wr => ∃ q j : Nat, q + j = M ∧ mv = .int .i64 (q : Int) ∧ Hid (SplSt w1 P R k (fun i => cS (given A W wt k j i : Nat)) (rN A W wt k j) (rD A W wt k j) wr)) (fun mv _ => (intOf mv).toNat)
      case atStart => exact ⟨M, 0, by omega, rfl, HS1⟩
      case round =>
        clear HS1
        obtain ⟨q, j, hqj, rfl, HS⟩ := hrel
        by_cases hq : 0 < q
        · have hq1 : (0 : Int) < (q : Int) := by omega
          have hw2 : IntKind.i64.wrap ((q : Int) - 1) = (q : Int) - 1 := IntWalk.i64_in _ (by omega)
          have hjk : j < k := by omega
          clear hw1
          go_wp2_with fail
          go_loopw [15, 16] (fun bv iv wx => ∃ b i : Nat, bv = .int .i64 (b : Int) ∧ iv = .int .i64 (i : Int) ∧ 1 ≤ i ∧ i ≤ k ∧ b < i ∧ Hid (∀ l, l < i → Num.restP (Num.remP A W wt) W k j l ≤ Num.restP (Num.remP A W wt) W k j b ∧ (Num.restP (Num.remP A W wt) W k j l = Num.restP (Num.remP A W wt) W k j b → b ≤ l)) ∧ Hid (SplSt w1 P R k (fun i => cS (given A W wt k j i : Nat)) (rN A W wt k j) (rD A W wt k j) wx)) (fun _ iv _ => k - (intOf iv).toNat)
          case atStart => exact ⟨0, 1, rfl, rfl, by omega, by omega, by omega, Lib.hid (fun l hl => by (obtain rfl : l = 0 := (by omega)); exact ⟨Int.le_refl _, fun _ => Nat.le_refl _⟩), HS⟩
          case round =>
            clear HS
            obtain ⟨b, i, rfl, rfl, h1i, hik, hbi, HM, HS⟩ := hrel
            have hbk : b < k := by omega
            have hb0 : (b : Int) < (k : Int) := by omega
            have hw3 : IntKind.i64.wrap ((i : Int) + 1) = (i : Int) + 1 := IntWalk.i64_in _ (by omega)
            by_cases hlt : i < k
            · obtain ⟨a1, a2⟩ := HS.out.cells hlt
              obtain ⟨b1, b2⟩ := HS.out.cells hbk
              obtain ⟨c, hcr, hcc⟩ := HRD.out.lcmp j i b hlt hbk
              have HC := Lib.hid hcr
              have HN1 := Lib.hid (show Num.restP (Num.remP A W wt) W k j b < Num.restP (Num.remP A W wt) W k j i → ∀ l, l < i + 1 → Num.restP (Num.remP A W wt) W k j l ≤ Num.restP (Num.remP A W wt) W k j i ∧ (Num.restP (Num.remP A W wt) W k j l = Num.restP (Num.remP A W wt) W k j i → i ≤ l) from fun hh l hl => by
                by_cases e : l = i
                · subst e; exact ⟨Int.le_refl _, fun _ => Nat.le_refl _⟩
                · have := HM.out l (by omega)
                  exact ⟨by omega, fun _ => by omega⟩)
              have HN2 := Lib.hid (show Num.restP (Num.remP A W wt) W k j i ≤ Num.restP (Num.remP A W wt) W k j b → ∀ l, l < i + 1 → Num.restP (Num.remP A W wt) W k j l ≤ Num.restP (Num.remP A W wt) W k j b ∧ (Num.restP (Num.remP A W wt) W k j l = Num.restP (Num.remP A W wt) W k j b → b ≤ l) from fun hh l hl => by
                by_cases e : l = i
                · subst e; exact ⟨hh, fun _ => by omega⟩
                · exact HM.out l (by omega))
              obtain ⟨ai, hai⟩ : ∃ x, rN A W wt k j i = x := ⟨_, rfl⟩
              obtain ⟨di, hdi⟩ : ∃ x, rD A W wt k j i = x := ⟨_, rfl⟩
              obtain ⟨ab, hab⟩ : ∃ x, rN A W wt k j b = x := ⟨_, rfl⟩
              obtain ⟨db, hdb⟩ : ∃ x, rD A W wt k j b = x := ⟨_, rfl⟩
              rw [hai] at a1
              rw [hdi] at a2
              rw [hab] at b1
              rw [hdb] at b2
              rw [hai, hdi, hab, hdb] at HC
              have HAI := Lib.hid hai
              have HDI := Lib.hid hdi
              have HAB := Lib.hid hab
              have HDB := Lib.hid hdb
              clear hcr hai hdi hab hdb HM
              rcases hcc with ⟨rfl, hh⟩ | ⟨rfl, hh⟩ | ⟨rfl, hh⟩
              · have HN := Lib.hid (HN1.out hh)
                clear hh HN1 HN2
                go_wp2_with fail
                go_region_held3 (fun w' => w'.cell? ⟨R, i * 2, none⟩ = some (.string ai) ∧ w'.cell? ⟨R, i * 2 + 1, none⟩ = some (.string di) ∧ w'.cell? ⟨R, b * 2, none⟩ = some (.string ab) ∧ w'.cell? ⟨R, b * 2 + 1, none⟩ = some (.string db))
                  (go_keep)
                  (first
                    | (go_at_call 58;
                                 (with_reducible refine Calls.mono (Ret.call HC.out _ (by first | exact HG1.out.below HS.out.below | exact HG1.out.below HS.out.drew.below | exact HG1.out.below (HS.out.drewN _).below)) ?_);
                                 (rintro _ WX ⟨rfl, hB1⟩);
                                 (have HS2 : SplSt w1 P R k (fun i => cS (given A W wt k j i : Nat)) (rN A W wt k j) (rD A W wt k j) WX := (by first | exact HS.out.next hB1 | exact HS.out.drew.next hB1 | exact (HS.out.drewN _).next hB1));
                                 (have HS3 := Lib.hid HS2);
                                 (obtain ⟨a1, a2⟩ := HS2.cells hlt);
                                 (obtain ⟨b1, b2⟩ := HS2.cells hbk);
                                 (rw [HAI.out] at a1);
                                 (rw [HDI.out] at a2);
                                 (rw [HAB.out] at b1);
                                 (rw [HDB.out] at b2);
                                 (clear HS HS2 hB1);
                                 (have HS := HS3);
                                 (clear HS3)))
                all_goals go_wp2_with fail
                all_goals go_roundw
                case rel => exact ⟨i, i + 1, rfl, by simp, by omega, by omega, by omega, HN, by first | exact HS | exact Lib.hid HS.out.drew | exact Lib.hid (HS.out.drewN _)⟩
                case measure => simp [intOf]; omega
              · have HN := Lib.hid (HN2.out hh)
                clear hh HN1 HN2
                go_wp2_with fail
                go_region_held3 (fun w' => w'.cell? ⟨R, i * 2, none⟩ = some (.string ai) ∧ w'.cell? ⟨R, i * 2 + 1, none⟩ = some (.string di) ∧ w'.cell? ⟨R, b * 2, none⟩ = some (.string ab) ∧ w'.cell? ⟨R, b * 2 + 1, none⟩ = some (.string db))
                  (go_keep)
                  (first
                    | (go_at_call 58;
                                 (with_reducible refine Calls.mono (Ret.call HC.out _ (by first | exact HG1.out.below HS.out.below | exact HG1.out.below HS.out.drew.below | exact HG1.out.below (HS.out.drewN _).below)) ?_);
                                 (rintro _ WX ⟨rfl, hB1⟩);
                                 (have HS2 : SplSt w1 P R k (fun i => cS (given A W wt k j i : Nat)) (rN A W wt k j) (rD A W wt k j) WX := (by first | exact HS.out.next hB1 | exact HS.out.drew.next hB1 | exact (HS.out.drewN _).next hB1));
                                 (have HS3 := Lib.hid HS2);
                                 (obtain ⟨a1, a2⟩ := HS2.cells hlt);
                                 (obtain ⟨b1, b2⟩ := HS2.cells hbk);
                                 (rw [HAI.out] at a1);
                                 (rw [HDI.out] at a2);
                                 (rw [HAB.out] at b1);
                                 (rw [HDB.out] at b2);
                                 (clear HS HS2 hB1);
                                 (have HS := HS3);
                                 (clear HS3)))
                all_goals go_wp2_with fail
                all_goals go_roundw
                case rel => exact ⟨b, i + 1, rfl, by simp, by omega, by omega, by omega, HN, by first | exact HS | exact Lib.hid HS.out.drew | exact Lib.hid (HS.out.drewN _)⟩
                case measure => simp [intOf]; omega
              · have HN := Lib.hid (HN2.out hh)
                clear hh HN1 HN2
                go_wp2_with fail
                go_region_held3 (fun w' => w'.cell? ⟨R, i * 2, none⟩ = some (.string ai) ∧ w'.cell? ⟨R, i * 2 + 1, none⟩ = some (.string di) ∧ w'.cell? ⟨R, b * 2, none⟩ = some (.string ab) ∧ w'.cell? ⟨R, b * 2 + 1, none⟩ = some (.string db))
                  (go_keep)
                  (first
                    | (go_at_call 58;
                                 (with_reducible refine Calls.mono (Ret.call HC.out _ (by first | exact HG1.out.below HS.out.below | exact HG1.out.below HS.out.drew.below | exact HG1.out.below (HS.out.drewN _).below)) ?_);
                                 (rintro _ WX ⟨rfl, hB1⟩);
                                 (have HS2 : SplSt w1 P R k (fun i => cS (given A W wt k j i : Nat)) (rN A W wt k j) (rD A W wt k j) WX := (by first | exact HS.out.next hB1 | exact HS.out.drew.next hB1 | exact (HS.out.drewN _).next hB1));
                                 (have HS3 := Lib.hid HS2);
                                 (obtain ⟨a1, a2⟩ := HS2.cells hlt);
                                 (obtain ⟨b1, b2⟩ := HS2.cells hbk);
                                 (rw [HAI.out] at a1);
                                 (rw [HDI.out] at a2);
                                 (rw [HAB.out] at b1);
                                 (rw [HDB.out] at b2);
                                 (clear HS HS2 hB1);
                                 (have HS := HS3);
                                 (clear HS3)))
                all_goals go_wp2_with fail
                all_goals go_roundw
                case rel => exact ⟨b, i + 1, rfl, by simp, by omega, by omega, by omega, HN, by first | exact HS | exact Lib.hid HS.out.drew | exact Lib.hid (HS.out.drewN _)⟩
                case measure => simp [intOf]; omega
            · obtain rfl : i = k := by omega
              have hrk : Num.rk (Num.remP A W wt) i b = j := Num.best_is (W := W) hjk (fun l _ => Nat.mod_lt _ HRD.out.w0) hbk (fun l hl => (HM.out l hl).1) (fun l hl => (HM.out l hl).2)
              have HRK := Lib.hid hrk
              have HC1 := Lib.hid (HRD.out.ladd j b hbk hrk)
              have HC2 := Lib.hid HRD.out.lof
              have HC3 := Lib.hid (HRD.out.lsub j b hbk hrk)
              have c1 := HS.out.pr.cell hbk
              obtain ⟨g0, hg0⟩ : ∃ x, cS (given A W wt i j b : Nat) = x := ⟨_, rfl⟩
              obtain ⟨g1, hg1⟩ : ∃ x, cS (given A W wt i (j + 1) b : Nat) = x := ⟨_, rfl⟩
              obtain ⟨a0, ha0⟩ : ∃ x, rN A W wt i j b = x := ⟨_, rfl⟩
              obtain ⟨d0, hd0⟩ : ∃ x, rD A W wt i j b = x := ⟨_, rfl⟩
              obtain ⟨a9, ha9⟩ : ∃ x, rN A W wt i (j + 1) b = x := ⟨_, rfl⟩
              obtain ⟨d9, hd9⟩ : ∃ x, rD A W wt i (j + 1) b = x := ⟨_, rfl⟩
              rw [hg0, hg1] at HC1
              rw [ha0, hd0, ha9, hd9] at HC3
              rw [hg0] at c1
              have HG9 := Lib.hid hg1
              have HA0 := Lib.hid ha0
              have HD0 := Lib.hid hd0
              have HA9 := Lib.hid ha9
              have HD9 := Lib.hid hd9
              clear hrk hg0 hg1 ha0 hd0 ha9 hd9 HM
              go_wp2_with fail
              refine Calls.mono (Ret.call HC1.out _ (HG1.out.below HS.out.below)) ?_
              rintro _ w3 ⟨rfl, hB⟩
              have HS3 := Lib.hid (HS.out.next hB)
              clear hB HS c1
              have c1 := HS3.out.pr.cell hbk
              have f1 := HS3.out.pr.frozen b
              go_upto_region 22 with fail
              obtain ⟨W6, hW6⟩ : ∃ W6, W6 = w3.setCell ⟨P, b, none⟩ (.string g1) := ⟨_, rfl⟩
              have hS6 : SplSt w1 P R i (upd (fun l => cS (given A W wt i j l : Nat)) b g1) (rN A W wt i j) (rD A W wt i j) W6 := by rw [hW6]; exact HS3.out.setP hwP hRP b g1
              rw [← hW6]
              clear hW6 c1 f1 HS3
              obtain ⟨m1, m2⟩ := hS6.cells hbk
              rw [HA0.out] at m1
              rw [HD0.out] at m2
              have HS := Lib.hid hS6
              clear hS6
              have hb2n : b * 2 + 1 < i * 2 := by omega
              go_region_with (first
                | (go_at_call 54;
                             (with_reducible refine Calls.mono (Ret.call HC2.out _ (by first | exact HG1.out.below HS.out.below | exact HG1.out.below HS.out.drew.below | exact HG1.out.below (HS.out.drewN _).below)) ?_);
                             (rintro _ WX ⟨rfl, hB1⟩);
                             (have HS2 : SplSt w1 P R i (upd (fun l => cS (given A W wt i j l : Nat)) b g1) (rN A W wt i j) (rD A W wt i j) WX := (by first | exact HS.out.next hB1 | exact HS.out.drew.next hB1 | exact (HS.out.drewN _).next hB1));
                             (have HS3 := Lib.hid HS2);
                             (obtain ⟨m1, m2⟩ := HS2.cells hbk);
                             (rw [HA0.out] at m1);
                             (rw [HD0.out] at m2);
                             (clear HS HS2 hB1);
                             (have HS := HS3);
                             (clear HS3))
                | (go_at_call 53;
                             (with_reducible refine Calls.mono (Ret.call HC3.out _ (by first | exact HG1.out.below HS.out.below | exact HG1.out.below HS.out.drew.below | exact HG1.out.below (HS.out.drewN _).below)) ?_);
                             (rintro _ WX ⟨rfl, hB1⟩);
                             (have HS2 : SplSt w1 P R i (upd (fun l => cS (given A W wt i j l : Nat)) b g1) (rN A W wt i j) (rD A W wt i j) WX := (by first | exact HS.out.next hB1 | exact HS.out.drew.next hB1 | exact (HS.out.drewN _).next hB1));
                             (have HS3 := Lib.hid HS2);
                             (have c1 := HS2.rr.cell (i := b * 2) (by omega));
                             (have f1 := HS2.rr.frozen (b * 2));
                             (have f2 := HS2.rr.frozen (b * 2 + 1));
                             (have hs1 := HS2.rr.set (b * 2) (.string a9));
                             (have c2 := hs1.cell (i := b * 2 + 1) (by omega));
                             (have f3 := hs1.frozen (b * 2 + 1));
                             (clear hs1);
                             (clear HS HS2 hB1);
                             (have HS := HS3);
                             (clear HS3)))
              all_goals go_wp2_with fail
              all_goals have hfin : ∀ WZ, SplSt w1 P R i (upd (fun l => cS (given A W wt i j l : Nat)) b g1) (rN A W wt i j) (rD A W wt i j) WZ → SplSt w1 P R i (fun l => cS (given A W wt i (j + 1) l : Nat)) (rN A W wt i (j + 1)) (rD A W wt i (j + 1)) ((WZ.setCell ⟨R, b * 2, none⟩ (.string a9)).setCell ⟨R, b * 2 + 1, none⟩ (.string d9)) := fun WZ hZ =>
                  (hZ.setR hwR hPR b a9 d9).congr (fun l hl => by
                    unfold upd
                    by_cases e : l = b
                    · rw [if_pos e, e, HG9.out]
                    · rw [if_neg e, given_stay (fun g => e (Num.rk_inj hl hbk (by rw [g, HRK.out])))]) (fun l hl => by
                    unfold upd
                    by_cases e : l = b
                    · rw [if_pos e, e, HA9.out]
                    · rw [if_neg e]; unfold rN; rw [rest_stay (fun g => e (Num.rk_inj hl hbk (by rw [g, HRK.out])))]) (fun l hl => by
                    unfold upd
                    by_cases e : l = b
                    · rw [if_pos e, e, HD9.out]
                    · rw [if_neg e]; unfold rD; rw [rest_stay (fun g => e (Num.rk_inj hl hbk (by rw [g, HRK.out])))])
              all_goals clear m1 m2 c1 f1 f2 c2 f3
              all_goals go_roundw
              all_goals first
                | (refine ⟨q - 1, j + 1, by omega, by rw [show ((q - 1 : Nat) : Int) = (q : Int) - 1 by omega], Lib.hid ?_⟩;
                   first
                     | exact hfin _ HS.out
                     | exact hfin _ HS.out.drew
                     | exact hfin _ (HS.out.drewN _)
                     | exact (hfin _ HS.out).drew
                     | exact (hfin _ HS.out).drewN _)
                | (simp [intOf]; omega)
        · obtain rfl : q = 0 := by omega
          have hjM : M = j := by omega
          have HJM := Lib.hid hjM
          have HT := Lib.hid HRD.out.tneg
          have htA := HRD.out.tA
          have HTA := Lib.hid htA
          clear hqj hjM htA hw1 hMn
          by_cases hneg : T < 0
          · rw [decide_eq_true hneg] at HT
            have HS6 := Lib.hid (HS.out.congr (p' := fun l => cS (if l < 0 then -((given A W wt k j l : Nat) : Int) else ((given A W wt k j l : Nat) : Int))) (u' := rN A W wt k j) (v' := rD A W wt k j) (fun i _ => by rw [if_neg (by omega)]) (fun _ _ => rfl) (fun _ _ => rfl))
            have HNEG := Lib.hid hneg
            clear hneg HS
            go_wp2_with fail
            refine (HT.out _).mono ?_
            rintro _ _ ⟨rfl, rfl⟩
            go_wp2_with fail
            go_loopw [17] (fun iv wx => ∃ l : Nat, l ≤ k ∧ iv = .int .i64 (l : Int) ∧ Hid (SplSt w1 P R k (fun i => cS (if i < l then -((given A W wt k j i : Nat) : Int) else ((given A W wt k j i : Nat) : Int))) (rN A W wt k j) (rD A W wt k j) wx)) (fun iv _ => k - (intOf iv).toNat)
            case atStart => exact ⟨0, Nat.zero_le _, rfl, HS6⟩
            case round =>
              clear HS6
              obtain ⟨l, hl, rfl, HS⟩ := hrel
              have hw4 : IntKind.i64.wrap ((l : Int) + 1) = (l : Int) + 1 := IntWalk.i64_in _ (by omega)
              by_cases hlk : l < k
              · have c1 := HS.out.pr.cell hlk
                have f1 := HS.out.pr.frozen l
                rw [if_neg (by omega)] at c1
                have HNE := Lib.hid (HRD.out.nneg j l hlk)
                obtain ⟨s1, hs1⟩ : ∃ s, cS ((given A W wt k j l : Nat) : Int) = s := ⟨_, rfl⟩
                obtain ⟨s2, hs2⟩ : ∃ s, cS (-((given A W wt k j l : Nat) : Int)) = s := ⟨_, rfl⟩
                have HS2 := Lib.hid hs2
                simp only [hs1, hs2] at c1 HNE
                clear hs1 hs2
                have HS6 := Lib.hid ((HS.out.setP hwP hRP l s2).congr (p' := fun i => cS (if i < l + 1 then -((given A W wt k j i : Nat) : Int) else ((given A W wt k j i : Nat) : Int))) (u' := rN A W wt k j) (v' := rD A W wt k j) (fun i hi => by
                  unfold upd
                  by_cases e : i = l
                  · rw [if_pos e, e, if_pos (by omega), ← HS2.out]
                  · rw [if_neg e]
                    dsimp only
                    by_cases g : i < l
                    · rw [if_pos g, if_pos (by omega)]
                    · rw [if_neg g, if_neg (by omega)]) (fun _ _ => rfl) (fun _ _ => rfl))
                clear HS
                go_wp2_with fail
                refine (HNE.out _).mono ?_
                rintro _ _ ⟨rfl, rfl⟩
                go_wp2_with fail
                go_roundw
                case rel => exact ⟨l + 1, by omega, by simp, HS6⟩
                case measure => simp [intOf]; omega
              · obtain rfl : l = k := by omega
                have HF := Lib.hid (HS.out.pr.congr (d := fun i => .string (cS (Num.splitP T W wt l i))) (fun i hi => by
                  unfold Num.splitP
                  rw [if_pos HNEG.out, if_pos hi, HTA.out]
                  unfold Num.partP
                  rw [HMM.out, HJM.out]
                  rfl))
                have HB := Lib.hid (HBW.out.trans (HS.out.below.mono HBW.out.size))
                clear HS
                go_wp2_with fail
                go_ret2
                exact ⟨P, rfl, HF.out, HB.out⟩
          · rw [decide_eq_false hneg] at HT
            have HF := Lib.hid (HS.out.pr.congr (d := fun i => .string (cS (Num.splitP T W wt k i))) (fun i hi => by
              unfold Num.splitP
              rw [if_neg hneg, HTA.out]
              unfold Num.partP
              rw [HMM.out, HJM.out]
              rfl))
            have HB := Lib.hid (HBW.out.trans (HS.out.below.mono HBW.out.size))
            clear hneg HS
            go_wp2_with fail
            refine (HT.out _).mono ?_
            rintro _ _ ⟨rfl, rfl⟩
            go_wp2_with fail
            go_ret2
            exact ⟨P, rfl, HF.out, HB.out⟩

end Go.Proofs.YthhihdihkddakaaGreatDoor

/- The reference of layer 4: Running: the walk. -/
namespace Go.Proofs.YthhihdihkddakaaGreatDoor
open Go.RowKit Fra

theorem add_red2 {a b W : Int} (h0 : 0 < W) : addP (red a W) (red b W) = red (a + b) W := by
  rw [add_red h0]
  refine red_eq (Int.mul_pos h0 h0) h0 ?_
  rw [Int.add_mul, Int.add_mul, Int.mul_assoc a, Int.mul_assoc b]
theorem OwnC.keptD {w w' : World} {base size n : Nat} {t : TypeId} {v : Value} {c : Nat → Value} (h : OwnC w base t size v n c) (hb : Below w.drew.heap.size w.drew w') : OwnC w' base t size v n c := OwnC.kept (w := w.drew) h hb
theorem PairAt.belowD {w w' : World} {b : Nat} {t : TypeId} {u v : ByteArray} (h : PairAt w b t u v) (hb : Below w.drew.heap.size w.drew w') : PairAt w' b t u v := PairAt.below (w := w.drew) h hb
end Go.Proofs.YthhihdihkddakaaGreatDoor

/- The reference of layer 4: Share: the walk. -/
namespace Go.Proofs.YthhihdihkddakaaGreatDoor
open Go.RowKit Fra

set_option maxRecDepth 100000 in
set_option maxHeartbeats 8000000 in
theorem rShare_ct (t p q : ByteArray) (ht : t.size ≤ 100) (ht2 : isCan t = false) : Ret 27 #[.string t, .string p, .string q] (shareV ⟨#[]⟩ ⟨#[]⟩ 1) := by
  intro w _
  unfold shareV
  have Ht := Lib.hid (fun w => rCheck_any t w (by omega))
  rw [show chk t = 1 by unfold chk; rw [ht2]; rfl] at Ht
  clear ht ht2
  go_enter Tryz.func27, Tryz.ntmps27
  go_wp2_with fail
  refine (Ht.out w).mono ?_
  rintro _ _ ⟨rfl, rfl⟩
  go_wp2_with fail
  go_ret3
  exact ⟨rfl, Below.refl _ _⟩

set_option maxRecDepth 100000 in
set_option maxHeartbeats 8000000 in
theorem rShare_cp (t p q : ByteArray) (ht : t.size ≤ 100) (hp : p.size ≤ 100) (ht2 : isCan t = true) (hp2 : isCan p = false) : Ret 27 #[.string t, .string p, .string q] (shareV ⟨#[]⟩ ⟨#[]⟩ 1) := by
  intro w _
  unfold shareV
  have Ht := Lib.hid (fun w => rCheck_any t w (by omega))
  rw [show chk t = 0 by unfold chk; rw [ht2]; rfl] at Ht
  have Hp := Lib.hid (fun w => rCheck_any p w (by omega))
  rw [show chk p = 1 by unfold chk; rw [hp2]; rfl] at Hp
  clear ht hp ht2 hp2
  go_enter Tryz.func27, Tryz.ntmps27
  go_wp2_with fail
  refine (Ht.out w).mono ?_
  rintro _ _ ⟨rfl, rfl⟩
  go_wp2_with fail
  refine (Hp.out w).mono ?_
  rintro _ _ ⟨rfl, rfl⟩
  go_wp2_with fail
  go_ret3
  exact ⟨rfl, Below.refl _ _⟩

set_option maxRecDepth 100000 in
set_option maxHeartbeats 8000000 in
theorem rShare_cq (t p q : ByteArray) (ht : t.size ≤ 100) (hp : p.size ≤ 100) (hq : q.size ≤ 100) (ht2 : isCan t = true) (hp2 : isCan p = true) (hq2 : isCan q = false) : Ret 27 #[.string t, .string p, .string q] (shareV ⟨#[]⟩ ⟨#[]⟩ 1) := by
  intro w _
  unfold shareV
  have Ht := Lib.hid (fun w => rCheck_any t w (by omega))
  rw [show chk t = 0 by unfold chk; rw [ht2]; rfl] at Ht
  have Hp := Lib.hid (fun w => rCheck_any p w (by omega))
  rw [show chk p = 0 by unfold chk; rw [hp2]; rfl] at Hp
  have Hq := Lib.hid (fun w => rCheck_any q w (by omega))
  rw [show chk q = 1 by unfold chk; rw [hq2]; rfl] at Hq
  clear ht hp hq ht2 hp2 hq2
  go_enter Tryz.func27, Tryz.ntmps27
  go_wp2_with fail
  refine (Ht.out w).mono ?_
  rintro _ _ ⟨rfl, rfl⟩
  go_wp2_with fail
  refine (Hp.out w).mono ?_
  rintro _ _ ⟨rfl, rfl⟩
  go_wp2_with fail
  refine (Hq.out w).mono ?_
  rintro _ _ ⟨rfl, rfl⟩
  go_wp2_with fail
  go_ret3
  exact ⟨rfl, Below.refl _ _⟩

set_option maxRecDepth 100000 in
set_option maxHeartbeats 8000000 in
theorem rShare_zero (t p q : ByteArray) (ht : t.size ≤ 100) (hp : p.size ≤ 100) (hq : q.size ≤ 100) (ht2 : isCan t = true) (hp2 : isCan p = true) (hq2 : isCan q = true) (hz : q = ⟨#[]⟩) : Ret 27 #[.string t, .string p, .string q] (shareV ⟨#[]⟩ ⟨#[]⟩ 10) := by
  intro w _
  unfold shareV
  have Ht := Lib.hid (fun w => rCheck_any t w (by omega))
  rw [show chk t = 0 by unfold chk; rw [ht2]; rfl] at Ht
  have Hp := Lib.hid (fun w => rCheck_any p w (by omega))
  rw [show chk p = 0 by unfold chk; rw [hp2]; rfl] at Hp
  have Hq := Lib.hid (fun w => rCheck_any q w (by omega))
  rw [show chk q = 0 by unfold chk; rw [hq2]; rfl] at Hq
  subst hz
  clear ht hp hq ht2 hp2 hq2
  go_enter Tryz.func27, Tryz.ntmps27
  go_wp2_with fail
  refine (Ht.out w).mono ?_
  rintro _ _ ⟨rfl, rfl⟩
  go_wp2_with fail
  refine (Hp.out w).mono ?_
  rintro _ _ ⟨rfl, rfl⟩
  go_wp2_with fail
  refine (Hq.out w).mono ?_
  rintro _ _ ⟨rfl, rfl⟩
  go_wp2_with fail
  go_ret3
  exact ⟨rfl, Below.refl _ _⟩

set_option maxRecDepth 100000 in
set_option maxHeartbeats 8000000 in
theorem rShare_nq (t p q : ByteArray) (ht : t.size ≤ 100) (hp : p.size ≤ 100) (hq : q.size ≤ 100) (ht2 : isCan t = true) (hp2 : isCan p = true) (hq2 : isCan q = true) (hz : q ≠ ⟨#[]⟩) (h1 : vS q < 0) : Ret 27 #[.string t, .string p, .string q] (shareV ⟨#[]⟩ ⟨#[]⟩ 2) := by
  intro w _
  unfold shareV
  have Ht := Lib.hid (fun w => rCheck_any t w (by omega))
  rw [show chk t = 0 by unfold chk; rw [ht2]; rfl] at Ht
  have Hp := Lib.hid (fun w => rCheck_any p w (by omega))
  rw [show chk p = 0 by unfold chk; rw [hp2]; rfl] at Hp
  have Hq := Lib.hid (fun w => rCheck_any q w (by omega))
  rw [show chk q = 0 by unfold chk; rw [hq2]; rfl] at Hq
  have hne := ne_nil_str hz
  have HN1 := Lib.hid (fun w => rNegative (s := q) (by omega) rfl w)
  have HN2 := Lib.hid (fun w => rNegative (s := p) (by omega) rfl w)
  have HCM := Lib.hid (fun w => rCompare_any p q w (by omega) (by omega))
  rw [decide_eq_true h1] at HN1
  clear ht hp hq ht2 hp2 hq2 hz h1 HN2 HCM
  go_enter Tryz.func27, Tryz.ntmps27
  go_wp2_with fail
  refine (Ht.out w).mono ?_
  rintro _ _ ⟨rfl, rfl⟩
  go_wp2_with fail
  refine (Hp.out w).mono ?_
  rintro _ _ ⟨rfl, rfl⟩
  go_wp2_with fail
  refine (Hq.out w).mono ?_
  rintro _ _ ⟨rfl, rfl⟩
  go_wp2_with fail
  refine (HN1.out w).mono ?_
  rintro _ _ ⟨rfl, rfl⟩
  go_wp2_with fail
  go_ret3
  exact ⟨rfl, Below.refl _ _⟩

set_option maxRecDepth 100000 in
set_option maxHeartbeats 8000000 in
theorem rShare_np (t p q : ByteArray) (ht : t.size ≤ 100) (hp : p.size ≤ 100) (hq : q.size ≤ 100) (ht2 : isCan t = true) (hp2 : isCan p = true) (hq2 : isCan q = true) (hz : q ≠ ⟨#[]⟩) (h1 : ¬ vS q < 0) (h2 : vS p < 0) : Ret 27 #[.string t, .string p, .string q] (shareV ⟨#[]⟩ ⟨#[]⟩ 2) := by
  intro w _
  unfold shareV
  have Ht := Lib.hid (fun w => rCheck_any t w (by omega))
  rw [show chk t = 0 by unfold chk; rw [ht2]; rfl] at Ht
  have Hp := Lib.hid (fun w => rCheck_any p w (by omega))
  rw [show chk p = 0 by unfold chk; rw [hp2]; rfl] at Hp
  have Hq := Lib.hid (fun w => rCheck_any q w (by omega))
  rw [show chk q = 0 by unfold chk; rw [hq2]; rfl] at Hq
  have hne := ne_nil_str hz
  have HN1 := Lib.hid (fun w => rNegative (s := q) (by omega) rfl w)
  have HN2 := Lib.hid (fun w => rNegative (s := p) (by omega) rfl w)
  have HCM := Lib.hid (fun w => rCompare_any p q w (by omega) (by omega))
  rw [decide_eq_false h1] at HN1
  rw [decide_eq_true h2] at HN2
  clear ht hp hq ht2 hp2 hq2 hz h1 h2 HCM
  go_enter Tryz.func27, Tryz.ntmps27
  go_wp2_with fail
  refine (Ht.out w).mono ?_
  rintro _ _ ⟨rfl, rfl⟩
  go_wp2_with fail
  refine (Hp.out w).mono ?_
  rintro _ _ ⟨rfl, rfl⟩
  go_wp2_with fail
  refine (Hq.out w).mono ?_
  rintro _ _ ⟨rfl, rfl⟩
  go_wp2_with fail
  refine (HN1.out w).mono ?_
  rintro _ _ ⟨rfl, rfl⟩
  go_wp2_with fail
  refine (HN2.out w).mono ?_
  rintro _ _ ⟨rfl, rfl⟩
  go_wp2_with fail
  go_ret3
  exact ⟨rfl, Below.refl _ _⟩

set_option maxRecDepth 100000 in
set_option maxHeartbeats 8000000 in
theorem rShare_gt (t p q : ByteArray) (ht : t.size ≤ 100) (hp : p.size ≤ 100) (hq : q.size ≤ 100) (ht2 : isCan t = true) (hp2 : isCan p = true) (hq2 : isCan q = true) (hz : q ≠ ⟨#[]⟩) (h1 : ¬ vS q < 0) (h2 : ¬ vS p < 0) (h3 : vS q < vS p) : Ret 27 #[.string t, .string p, .string q] (shareV ⟨#[]⟩ ⟨#[]⟩ 2) := by
  intro w _
  unfold shareV
  have Ht := Lib.hid (fun w => rCheck_any t w (by omega))
  rw [show chk t = 0 by unfold chk; rw [ht2]; rfl] at Ht
  have Hp := Lib.hid (fun w => rCheck_any p w (by omega))
  rw [show chk p = 0 by unfold chk; rw [hp2]; rfl] at Hp
  have Hq := Lib.hid (fun w => rCheck_any q w (by omega))
  rw [show chk q = 0 by unfold chk; rw [hq2]; rfl] at Hq
  have hne := ne_nil_str hz
  have HN1 := Lib.hid (fun w => rNegative (s := q) (by omega) rfl w)
  have HN2 := Lib.hid (fun w => rNegative (s := p) (by omega) rfl w)
  have HCM := Lib.hid (fun w => rCompare_any p q w (by omega) (by omega))
  rw [decide_eq_false h1] at HN1
  rw [decide_eq_false h2] at HN2
  rw [show cmp3 (vS p) (vS q) = 1 by unfold cmp3; rw [if_neg (by omega), if_pos h3]] at HCM
  clear ht hp hq ht2 hp2 hq2 hz h1 h2 h3
  go_enter Tryz.func27, Tryz.ntmps27
  go_wp2_with fail
  refine (Ht.out w).mono ?_
  rintro _ _ ⟨rfl, rfl⟩
  go_wp2_with fail
  refine (Hp.out w).mono ?_
  rintro _ _ ⟨rfl, rfl⟩
  go_wp2_with fail
  refine (Hq.out w).mono ?_
  rintro _ _ ⟨rfl, rfl⟩
  go_wp2_with fail
  refine (HN1.out w).mono ?_
  rintro _ _ ⟨rfl, rfl⟩
  go_wp2_with fail
  refine (HN2.out w).mono ?_
  rintro _ _ ⟨rfl, rfl⟩
  go_wp2_with fail
  refine (HCM.out w).mono ?_
  rintro _ _ ⟨rfl, rfl⟩
  go_wp2_with fail
  go_ret3
  exact ⟨rfl, Below.refl _ _⟩

set_option maxRecDepth 100000 in
set_option maxHeartbeats 8000000 in
theorem rShare_ok (t p q : ByteArray) (ht : t.size ≤ 100) (hp : p.size ≤ 100) (hq : q.size ≤ 100) (ht2 : isCan t = true) (hp2 : isCan p = true) (hq2 : isCan q = true) (hz : q ≠ ⟨#[]⟩) (h1 : ¬ vS q < 0) (h2 : ¬ vS p < 0) (h3 : ¬ vS q < vS p) (h0 : 0 < vS q) {z : Int} (hr : rnd 1 (vS t * vS p, vS q) = z) (hzc : Cap 200 z) : Ret 27 #[.string t, .string p, .string q] (shareV (cS z) (cS (vS t - z)) 0) := by
  intro w hG
  unfold shareV
  have HG := Lib.hid hG
  have Ht := Lib.hid (fun w => rCheck_any t w (by omega))
  rw [show chk t = 0 by unfold chk; rw [ht2]; rfl] at Ht
  have Hp := Lib.hid (fun w => rCheck_any p w (by omega))
  rw [show chk p = 0 by unfold chk; rw [hp2]; rfl] at Hp
  have Hq := Lib.hid (fun w => rCheck_any q w (by omega))
  rw [show chk q = 0 by unfold chk; rw [hq2]; rfl] at Hq
  have hne := ne_nil_str hz
  have HN1 := Lib.hid (fun w => rNegative (s := q) (by omega) rfl w)
  have HN2 := Lib.hid (fun w => rNegative (s := p) (by omega) rfl w)
  have HCM := Lib.hid (fun w => rCompare_any p q w (by omega) (by omega))
  rw [decide_eq_false h1] at HN1
  rw [decide_eq_false h2] at HN2
  have hcm := Cap.mul (Cap.of ht rfl) (Cap.of hp rfl)
  have hms := cS_size hcm
  have HM := Lib.hid (fun W => qMul (a := t) (b := p) (z := vS t * vS p) W (by omega) (by omega) rfl rfl rfl)
  have HW := Lib.hid (fun W hW => qNew_any (x := vS t * vS p) (y := vS q) (n := cS (vS t * vS p)) (d := q) W hW (by omega) (by omega) (vS_cS _) rfl (by omega))
  rw [redS_red h0] at HW
  have hfc : CapP 200 (red (vS t * vS p) (vS q)) := CapP.of_red h0 hcm (Cap.mono (Cap.of hq rfl) (by decide))
  have s1 := cS_size hfc.1
  have s2 := cD_size hfc.2
  have s3 := cS_size hzc
  have HRO := Lib.hid (fun W hW => kRound_ok (fn := cS (red (vS t * vS p) (vS q)).1) (fd := cD (red (vS t * vS p) (vS q)).2) (m := 1) (z := z) (by omega) (by omega) (by decide) (by decide) (by rw [raw_can (red_pos h0), rnd_congr (y := (vS t * vS p, vS q)) (red_pos h0) h0 (same_red _ _)]; exact hr) W hW)
  have HSU := Lib.hid (fun W => rSub_any t (cS z) W (by omega) (by omega))
  rw [vS_cS] at HSU
  unfold StrPost at HM HSU
  unfold two at HRO
  obtain ⟨mm, hmm⟩ : ∃ x, cS (vS t * vS p) = x := ⟨_, rfl⟩
  obtain ⟨fn, hfn⟩ : ∃ x, cS (red (vS t * vS p) (vS q)).1 = x := ⟨_, rfl⟩
  obtain ⟨fd, hfd⟩ : ∃ x, cD (red (vS t * vS p) (vS q)).2 = x := ⟨_, rfl⟩
  obtain ⟨sz, hsz⟩ : ∃ x, cS z = x := ⟨_, rfl⟩
  obtain ⟨sr, hsr⟩ : ∃ x, cS (vS t - z) = x := ⟨_, rfl⟩
  rw [hmm] at HM HW
  rw [hfn, hfd] at HW HRO
  rw [hsz] at HRO HSU
  rw [hsr] at HSU
  rw [hsz, hsr]
  obtain ⟨c, hc⟩ : ∃ c, cmp3 (vS p) (vS q) = c := ⟨_, rfl⟩
  have hcc : c = -1 ∨ c = 0 := by
    rw [← hc]
    unfold cmp3
    split
    · exact Or.inl rfl
    · exact Or.inr rfl
  rw [hc] at HCM
  clear ht hp hq ht2 hp2 hq2 hz h1 h2 h3 h0 hr hzc hcm hms hfc s1 s2 s3 hmm hfn hfd hsz hsr hc hG
  rcases hcc with rfl | rfl
  · go_enter Tryz.func27, Tryz.ntmps27
    go_wp2_with fail
    refine (Ht.out w).mono ?_
    rintro _ _ ⟨rfl, rfl⟩
    go_wp2_with fail
    refine (Hp.out w).mono ?_
    rintro _ _ ⟨rfl, rfl⟩
    go_wp2_with fail
    refine (Hq.out w).mono ?_
    rintro _ _ ⟨rfl, rfl⟩
    go_wp2_with fail
    refine (HN1.out w).mono ?_
    rintro _ _ ⟨rfl, rfl⟩
    go_wp2_with fail
    refine (HN2.out w).mono ?_
    rintro _ _ ⟨rfl, rfl⟩
    go_wp2_with fail
    refine (HCM.out w).mono ?_
    rintro _ _ ⟨rfl, rfl⟩
    go_wp2_with fail
    refine (HM.out w).mono ?_
    rintro _ w1 ⟨rfl, hB⟩
    go_wp2_with fail
    refine (HW.out _ (HG.out.below hB)).mono ?_
    rintro _ w2 ⟨rfl, hB2⟩
    replace hB := hB.trans (hB2.mono hB.size)
    clear hB2
    go_upto_region 8 with fail
    obtain ⟨W3, hW3⟩ : ∃ W3, W3 = w2.alloc (.cells #[.string fn, .string fd] 36) := ⟨_, rfl⟩
    have hP : PairAt W3 w2.heap.size 36 fn fd := by rw [hW3]; exact PairAt.made _ _ _ _
    replace hB : Below w.heap.size w W3 := by rw [hW3]; exact hB.alloc hB.size _
    rw [← hW3]
    clear hW3
    obtain ⟨k0, k1, _, _⟩ := hP.cells
    go_wp2_with fail
    refine (HRO.out _ (HG.out.below hB)).mono ?_
    rintro _ w4 ⟨rfl, hB2⟩
    replace hB := hB.trans (hB2.mono hB.size)
    clear hB2 k0 k1 hP
    go_wp2_with fail
    refine (HSU.out _).mono ?_
    rintro _ w5 ⟨rfl, hB2⟩
    replace hB := hB.trans (hB2.mono hB.size)
    go_wp2_with fail
    go_ret3
    exact ⟨rfl, hB⟩
  · go_enter Tryz.func27, Tryz.ntmps27
    go_wp2_with fail
    refine (Ht.out w).mono ?_
    rintro _ _ ⟨rfl, rfl⟩
    go_wp2_with fail
    refine (Hp.out w).mono ?_
    rintro _ _ ⟨rfl, rfl⟩
    go_wp2_with fail
    refine (Hq.out w).mono ?_
    rintro _ _ ⟨rfl, rfl⟩
    go_wp2_with fail
    refine (HN1.out w).mono ?_
    rintro _ _ ⟨rfl, rfl⟩
    go_wp2_with fail
    refine (HN2.out w).mono ?_
    rintro _ _ ⟨rfl, rfl⟩
    go_wp2_with fail
    refine (HCM.out w).mono ?_
    rintro _ _ ⟨rfl, rfl⟩
    go_wp2_with fail
    refine (HM.out w).mono ?_
    rintro _ w1 ⟨rfl, hB⟩
    go_wp2_with fail
    refine (HW.out _ (HG.out.below hB)).mono ?_
    rintro _ w2 ⟨rfl, hB2⟩
    replace hB := hB.trans (hB2.mono hB.size)
    clear hB2
    go_upto_region 8 with fail
    obtain ⟨W3, hW3⟩ : ∃ W3, W3 = w2.alloc (.cells #[.string fn, .string fd] 36) := ⟨_, rfl⟩
    have hP : PairAt W3 w2.heap.size 36 fn fd := by rw [hW3]; exact PairAt.made _ _ _ _
    replace hB : Below w.heap.size w W3 := by rw [hW3]; exact hB.alloc hB.size _
    rw [← hW3]
    clear hW3
    obtain ⟨k0, k1, _, _⟩ := hP.cells
    go_wp2_with fail
    refine (HRO.out _ (HG.out.below hB)).mono ?_
    rintro _ w4 ⟨rfl, hB2⟩
    replace hB := hB.trans (hB2.mono hB.size)
    clear hB2 k0 k1 hP
    go_wp2_with fail
    refine (HSU.out _).mono ?_
    rintro _ w5 ⟨rfl, hB2⟩
    replace hB := hB.trans (hB2.mono hB.size)
    go_wp2_with fail
    go_ret3
    exact ⟨rfl, hB⟩

end Go.Proofs.YthhihdihkddakaaGreatDoor

/- Layer 4: the program's Share and the reference's return the same. -/
namespace Go.Proofs.YthhihdihkddakaaGreatDoor
open Go.RowKit Fra

theorem share_both {t p q : ByteArray} (ht : t.size ≤ 30) (hp : p.size ≤ 30) (hq : q.size ≤ 30) :
    ∃ a b c, Ret 26 #[.string t, .string p, .string q] (shareV a b c) ∧ Ret 27 #[.string t, .string p, .string q] (shareV a b c) := by
  have hC := aChk (t := t) (p := p) (q := q) (by omega) (by omega) (by omega)
  cases a1 : isCan t with
  | false =>
    rw [show shareE t p q = 1 by unfold shareE can3; rw [a1]; rfl] at hC
    exact ⟨_, _, 1, aShare_bad hC (by decide), rShare_ct t p q (by omega) a1⟩
  | true =>
    cases a2 : isCan p with
    | false =>
      rw [show shareE t p q = 1 by unfold shareE can3; rw [a1, a2]; rfl] at hC
      exact ⟨_, _, 1, aShare_bad hC (by decide), rShare_cp t p q (by omega) (by omega) a1 a2⟩
    | true =>
      cases a3 : isCan q with
      | false =>
        rw [show shareE t p q = 1 by unfold shareE can3; rw [a1, a2, a3]; rfl] at hC
        exact ⟨_, _, 1, aShare_bad hC (by decide), rShare_cq t p q (by omega) (by omega) (by omega) a1 a2 a3⟩
      | true =>
        have hcan : ¬ can3 t p q = false := by unfold can3; rw [a1, a2, a3]; decide
        by_cases hz : q = ⟨#[]⟩
        · rw [show shareE t p q = 10 by unfold shareE; rw [if_neg hcan, if_pos (by rw [hz]; exact vS_nil)]] at hC
          exact ⟨_, _, 10, aShare_bad hC (by decide), rShare_zero t p q (by omega) (by omega) (by omega) a1 a2 a3 hz⟩
        · have hq0 : vS q ≠ 0 := fun e => hz (by rw [can_eq a3, e, cS_zero])
          by_cases h1 : vS q < 0
          · rw [show shareE t p q = 2 by unfold shareE; rw [if_neg hcan, if_neg hq0, if_pos (by omega)]] at hC
            exact ⟨_, _, 2, aShare_bad hC (by decide), rShare_nq t p q (by omega) (by omega) (by omega) a1 a2 a3 hz h1⟩
          · by_cases h2 : vS p < 0
            · rw [show shareE t p q = 2 by unfold shareE; rw [if_neg hcan, if_neg hq0, if_pos (by omega)]] at hC
              exact ⟨_, _, 2, aShare_bad hC (by decide), rShare_np t p q (by omega) (by omega) (by omega) a1 a2 a3 hz h1 h2⟩
            · by_cases h3 : vS q < vS p
              · rw [show shareE t p q = 2 by unfold shareE; rw [if_neg hcan, if_neg hq0, if_pos (by omega)]] at hC
                exact ⟨_, _, 2, aShare_bad hC (by decide), rShare_gt t p q (by omega) (by omega) (by omega) a1 a2 a3 hz h1 h2 h3⟩
              · have h0 : 0 < vS q := by omega
                have hE : shareE t p q = 0 := by unfold shareE; rw [if_neg hcan, if_neg hq0, if_neg (by omega)]
                have hzc : Cap 62 (rnd 1 (vS t * vS p, vS q)) := rnd_cap4 (k := 60) (Cap.mul (k := 30) (l := 30) (Cap.of ht rfl) (Cap.of hp rfl)) h0
                have hzs := cS_size hzc
                exact ⟨_, _, 0, aShare_ok (by omega) (by omega) (by omega) hE h0 rfl (by omega), rShare_ok t p q (by omega) (by omega) (by omega) a1 a2 a3 hz h1 h2 h3 h0 rfl (hzc.mono (by decide))⟩

end Go.Proofs.YthhihdihkddakaaGreatDoor

/- Layer 4: fractions over any common multiple of their denominators. -/
namespace Go.Proofs.YthhihdihkddakaaGreatDoor
open Fra

namespace Num
theorem numW_mul {nu de : Nat → Nat} {M c i : Nat} (hd : 0 < de i) (h : de i ∣ M) : numW nu de (c * M) i = c * numW nu de M i := by
  refine Nat.eq_of_mul_eq_mul_right hd ?_
  rw [numW_eq (Nat.dvd_trans h (Nat.dvd_mul_left M c)), Nat.mul_assoc, numW_eq h, Nat.mul_left_comm]
/-- any common multiple X gives the same as the least one -/
theorem common_any {n X : Nat} {nu de : Nat → Nat} (hd : ∀ i, i < n → 0 < de i) (hX : 0 < X) (hdv : ∀ i, i < n → de i ∣ X) :
    (sumN (numW nu de X) n = X ↔ sumN (numW nu de (lcmD de n)) n = lcmD de n) ∧ ∀ T i, i < n → splitP T X (numW nu de X) n i = splitP T (lcmD de n) (numW nu de (lcmD de n)) n i := by
  obtain ⟨c, hc⟩ := lcmD_dvd hdv
  rw [Nat.mul_comm] at hc
  have hc0 : 0 < c := by
    rcases Nat.eq_zero_or_pos c with e | e
    · subst e; omega
    · exact e
  have hw : ∀ i, i < n → numW nu de X i = c * numW nu de (lcmD de n) i := fun i hi => by rw [hc]; exact numW_mul (hd i hi) (dvd_lcmD hi)
  have hs : sumN (numW nu de X) n = c * sumN (numW nu de (lcmD de n)) n := by rw [← sumN_mul]; exact sumN_congr hw
  refine ⟨?_, fun T i hi => ?_⟩
  · rw [hs]
    constructor
    · intro h
      rw [hc] at h
      exact Nat.eq_of_mul_eq_mul_left hc0 h
    · intro h
      rw [h, ← hc]
  · rw [split_congr hi hw]
    have h3 := split_scale (T := T) (W := lcmD de n) (w := numW nu de (lcmD de n)) (n := n) (i := i) hc0
    rw [← hc] at h3
    exact h3
/-- the product of the first k denominators -/
def prodD (de : Nat → Nat) : Nat → Nat
  | 0 => 1
  | k + 1 => prodD de k * de k
theorem prodD_pos {de : Nat → Nat} : ∀ {k : Nat}, (∀ i, i < k → 0 < de i) → 0 < prodD de k
  | 0, _ => Nat.one_pos
  | k + 1, h => Nat.mul_pos (prodD_pos fun i hi => h i (by omega)) (h k (by omega))
theorem dvd_prodD {de : Nat → Nat} : ∀ {k i : Nat}, i < k → de i ∣ prodD de k
  | k + 1, i, h => by
    by_cases e : i = k
    · subst e; exact Nat.dvd_mul_left _ _
    · exact Nat.dvd_trans (dvd_prodD (show i < k by omega)) (Nat.dvd_mul_right _ _)
end Num

/-- a fraction over a common multiple -/
theorem red_over {nu de X : Nat} (hd : 0 < de) (hX : 0 < X) (h : de ∣ X) : red (nu : Nat) (de : Nat) = red ((nu * (X / de) : Nat) : Int) (X : Nat) := by
  refine red_eq (by omega) (by omega) ?_
  rw [← Int.natCast_mul, ← Int.natCast_mul, Nat.mul_assoc, Nat.div_mul_cancel h]
/-- a sum is 1 if, and only if, its numerator is the denominator -/
theorem red_whole {s X : Nat} (hX : 0 < X) : red (s : Nat) (X : Nat) = (1, 1) ↔ s = X := by
  constructor
  · intro h
    have h1 := red_cross (n := (s : Int)) (d := (X : Int))
    rw [h] at h1
    simp only [Int.one_mul, Int.mul_one] at h1
    omega
  · intro h
    subst h
    rw [red_eq (m := 1) (e := 1) (by omega) Int.one_pos (by rw [Int.mul_one, Int.one_mul])]
    exact red_lowest (by decide)

end Go.Proofs.YthhihdihkddakaaGreatDoor
