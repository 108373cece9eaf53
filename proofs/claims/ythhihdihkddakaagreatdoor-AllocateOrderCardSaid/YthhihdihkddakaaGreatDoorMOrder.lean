/- the law AllocateOrder: the walk. -/
import Derived.Test.YthhihdihkddakaaGreatDoorMSums
import Derived.Deep.LoopGhost
namespace Go.Proofs.YthhihdihkddakaaGreatDoor
open Go.RowKit Fra

/-- how two parts stand to each other: cases that the law asks of -/
structure OrdP (c d : Int) (i k : Nat) (a b : Nat) : Prop where
  up : 0 < c → ¬ d < 0
  same : c = 0 → i < k → ¬ d < 0 ∧ (a : Int) - b ≤ 1
theorem ord_of {T W n : Nat} {wt : Nat → Nat} {i k : Nat} (hi : i < n) (hk : k < n) : OrdP (cmp3 (wt i : Int) (wt k : Int)) (cmp3 (Num.partP T W wt n i : Int) (Num.partP T W wt n k : Int)) i k (Num.partP T W wt n i) (Num.partP T W wt n k) := by
  refine ⟨fun hc => ?_, fun hc hik => ?_⟩
  · have h1 := (cmp3_pos _ _).1 hc
    have h2 := Num.part_order (T := T) (W := W) hi hk (w := wt) (by omega)
    unfold cmp3; split
    · omega
    · split <;> omega
  · have h1 := (cmp3_zero _ _).1 hc
    have h2 := Num.part_same (T := T) (W := W) hk (w := wt) (by omega) hik
    refine ⟨?_, by omega⟩
    unfold cmp3; split
    · omega
    · split <;> omega

set_option maxRecDepth 100000 in
set_option maxHeartbeats 16000000 in
theorem aor_long1 (t : ByteArray) (xa : Option Addr) (n cap : Nat) (w : World) (hG : Ground w) (ht : over t = true) :
    Calls Tryz.prog 7 #[.string t, .slice xa n cap] w fun r w' => r = .returned (.bool true) ∧ Below w.heap.size w w' := by
  have HL := Lib.hid (rGreat_lit w hG [t] (by simp))
  simp only [List.length_cons, List.length_nil, Nat.zero_add, List.map_cons, List.map_nil] at HL
  rw [great1, ht] at HL
  have HG := Lib.hid hG
  have HAW := Lib.hid aawake
  clear ht hG
  go_enter Tryz.func7, Tryz.ntmps7
  go_wp2_with fail
  refine HL.out.mono ?_
  rintro _ w0 ⟨rfl, hb⟩
  go_wp2_with fail
  refine (HAW.out _ (HG.out.below hb)).mono ?_
  rintro _ _ ⟨rfl, hB⟩
  replace hb := hb.trans (hB.mono hb.size)
  clear hB
  go_wp2_with fail
  go_ret
  exact ⟨rfl, hb⟩

set_option maxRecDepth 100000 in
set_option maxHeartbeats 16000000 in
theorem aor_long2 (t : ByteArray) (xa : Option Addr) (n cap : Nat) (s : Nat → ByteArray) (w : World) (hG : Ground w) (hr : Rs w xa n s) (hmax : n ≤ 9223372036854775807) (ht : over t = false) (hl : great n s = true) :
    Calls Tryz.prog 7 #[.string t, .slice xa n cap] w fun r w' => r = .returned (.bool true) ∧ Below w.heap.size w w' := by
  have HL := Lib.hid (rGreat_lit w hG [t] (by simp))
  simp only [List.length_cons, List.length_nil, Nat.zero_add, List.map_cons, List.map_nil] at HL
  rw [great1, ht] at HL
  have HG := Lib.hid hG
  have HAW := Lib.hid aawake
  have HR := Lib.hid hr
  have HGR := Lib.hid (fun W hG hr => rGreat W hG xa n cap s hr hmax)
  rw [hl] at HGR
  clear ht hG hr hmax hl
  go_enter Tryz.func7, Tryz.ntmps7
  go_wp2_with fail
  refine HL.out.mono ?_
  rintro _ w0 ⟨rfl, hb⟩
  go_wp2_with fail
  refine (HGR.out _ (HG.out.below hb) (HR.out.belowAt hb (Nat.le_refl _))).mono ?_
  rintro _ _ ⟨rfl, hB⟩
  replace hb := hb.trans (hB.mono hb.size)
  clear hB
  go_wp2_with fail
  refine (HAW.out _ (HG.out.below hb)).mono ?_
  rintro _ _ ⟨rfl, hB⟩
  replace hb := hb.trans (hB.mono hb.size)
  clear hB
  go_wp2_with fail
  go_ret
  exact ⟨rfl, hb⟩

set_option maxRecDepth 100000 in
set_option maxHeartbeats 16000000 in
theorem aor_bad (t : ByteArray) (xa : Option Addr) (n cap : Nat) (s : Nat → ByteArray) (w : World) (hG : Ground w) (hr : Rs w xa n s) (hmax : n ≤ 9223372036854775807) (ht : over t = false) (hl : great n s = false) (hf : FitW n t s) (h : weighE t n s ≠ 0) :
    Calls Tryz.prog 7 #[.string t, .slice xa n cap] w fun r w' => r = .returned (.bool true) ∧ Below w.heap.size w w' := by
  have HL := Lib.hid (rGreat_lit w hG [t] (by simp))
  simp only [List.length_cons, List.length_nil, Nat.zero_add, List.map_cons, List.map_nil] at HL
  rw [great1, ht] at HL
  have HG := Lib.hid hG
  have HAW := Lib.hid aawake
  have HR := Lib.hid hr
  have HGR := Lib.hid (fun W hG hr => rGreat W hG xa n cap s hr hmax)
  rw [hl] at HGR
  have HN := Lib.hid (fun W hG hr => aSplit_bad W hG t xa n cap s hr hf h)
  obtain ⟨c, hc⟩ : ∃ c, weighE t n s = c := ⟨_, rfl⟩
  rw [hc] at HN
  have hb1 : (c != 0) = true := by rw [bne_iff_ne, ← hc]; exact h
  unfold nilE at HN
  clear ht hG hr hmax hl hf h hc
  go_enter Tryz.func7, Tryz.ntmps7
  go_wp2_with fail
  refine HL.out.mono ?_
  rintro _ w0 ⟨rfl, hb⟩
  go_wp2_with fail
  refine (HGR.out _ (HG.out.below hb) (HR.out.belowAt hb (Nat.le_refl _))).mono ?_
  rintro _ _ ⟨rfl, hB⟩
  replace hb := hb.trans (hB.mono hb.size)
  clear hB
  go_wp2_with fail
  refine (HN.out _ (HG.out.below hb) (HR.out.belowAt hb (Nat.le_refl _))).mono ?_
  rintro _ _ ⟨rfl, hB⟩
  replace hb := hb.trans (hB.mono hb.size)
  clear hB
  go_wp2_with fail
  refine (HAW.out _ (HG.out.below hb)).mono ?_
  rintro _ _ ⟨rfl, hB⟩
  replace hb := hb.trans (hB.mono hb.size)
  clear hB
  go_wp2_with fail
  go_ret
  exact ⟨rfl, hb⟩

set_option maxRecDepth 100000 in
set_option maxHeartbeats 16000000 in
theorem aor_ok (t : ByteArray) (xa : Option Addr) (n cap : Nat) (s : Nat → ByteArray) (w : World) (hG : Ground w) (hr : Rs w xa n s) (hmax : n ≤ 9223372036854775807) (ht : over t = false) (hl : great n s = false) (hf : FitW n t s) (h : weighE t n s = 0) (ht30 : t.size ≤ 30) :
    Calls Tryz.prog 7 #[.string t, .slice xa n cap] w fun r w' => r = .returned (.bool true) ∧ Below w.heap.size w w' := by
  have HL := Lib.hid (rGreat_lit w hG [t] (by simp))
  simp only [List.length_cons, List.length_nil, Nat.zero_add, List.map_cons, List.map_nil] at HL
  rw [great1, ht] at HL
  have HG := Lib.hid hG
  have HAW := Lib.hid aawake
  have HR := Lib.hid hr
  have HGR := Lib.hid (fun W hG hr => rGreat W hG xa n cap s hr hmax)
  rw [hl] at HGR
  have hd := (weighE_zero h).data hf
  obtain ⟨c, hc1, hdiv⟩ := hd.divc
  have hn := hdiv.few
  have hn1 := hdiv.pos
  have HN := Lib.hid (fun W hG hr => aSplit_ok W hG t xa n cap s hr hf h)
  have hca : ∀ i, i < n → Cap 31 (Num.splitP (vS t) (Num.sumN (wtN s) n) (wtN s) n i) := fun i hi => hdiv.near_cap hi (Num.split_near rfl hdiv.w0) (Cap.of ht30 rfl) (by decide)
  have HAP := Lib.hid (fun i => Num.split_abs (T := vS t) (W := Num.sumN (wtN s) n) (w := wtN s) (n := n) (i := i))
  have HO := Lib.hid (fun i k hi hk => ord_of (T := (vS t).natAbs) (W := Num.sumN (wtN s) n) (wt := wtN s) (n := n) (i := i) (k := k) hi hk)
  have HRS := Lib.hid (Rs.congr hr (t := fun i => cS (wtN s i : Nat)) (fun i hi => (hd.each i hi).symm))
  obtain ⟨A, hA⟩ : ∃ A, Num.splitP (vS t) (Num.sumN (wtN s) n) (wtN s) n = A := ⟨_, rfl⟩
  obtain ⟨PP, hPP⟩ : ∃ PP, Num.partP (vS t).natAbs (Num.sumN (wtN s) n) (wtN s) n = PP := ⟨_, rfl⟩
  obtain ⟨wt, hwt⟩ : ∃ wt, wtN s = wt := ⟨_, rfl⟩
  rw [hA] at HN hca HAP
  rw [hPP] at HAP HO
  rw [hwt] at HO HRS hdiv
  have HDV := Lib.hid hdiv
  have HZ := Lib.hid (fun i hi => (cap_len (hca i hi) (by decide) : (cS (A i)).size ≤ 4294967295))
  have hpc : ∀ i, i < n → Cap 31 (PP i : Nat) := fun i hi => by have h1 := hca i hi; have h2 := HAP.out i; unfold Cap at h1 ⊢; omega
  have HPZ := Lib.hid (fun i hi => (cap_len (hpc i hi) (by decide) : (cS (PP i : Nat)).size ≤ 4294967295))
  have HDZ := Lib.hid (fun i k hi hk => (cap_len (Cap.sub (hpc i hi) (hpc k hk)) (by decide) : (cS ((PP i : Int) - (PP k : Int))).size ≤ 4294967295))
  obtain ⟨ab, ao, rfl, hab, hac⟩ := HRS.out.sl (by omega)
  clear ht hG hmax hl hf h hd hdiv hca hA hPP hwt hpc hc1 ht30 hr
  go_enter Tryz.func7, Tryz.ntmps7
  go_wp2_with fail
  refine HL.out.mono ?_
  rintro _ w0 ⟨rfl, hb⟩
  go_wp2_with fail
  refine (HGR.out _ (HG.out.below hb) (HR.out.belowAt hb (Nat.le_refl _))).mono ?_
  rintro _ _ ⟨rfl, hB⟩
  replace hb := hb.trans (hB.mono hb.size)
  clear hB
  go_wp2_with fail
  refine (HN.out _ (HG.out.below hb) (HR.out.belowAt hb (Nat.le_refl _))).mono ?_
  rintro _ w3 ⟨Q, rfl, hQ, hB⟩
  replace hb := hb.trans (hB.mono hb.size)
  have HQ := Lib.hid hQ
  have hlq : Q < w3.heap.size := hQ.lt
  have hli : ab < w3.heap.size := Nat.lt_of_lt_of_le hab hb.size
  have HRW := Lib.hid (fun i hi => (hb.cell (p := ⟨ab, ao + i, none⟩) hab).trans (hac i hi))
  have HB := Lib.hid hb
  have HC := Lib.hid (Below.refl w3.heap.size w3)
  clear hB HN hQ hac hb HRS HR
  go_wp2_with fail
  go_loopg [41] (n + 1) (fun g1 vi wr => ∃ i : Nat, vi = .int .i64 (i : Int) ∧ i ≤ n ∧ n - i + 1 ≤ g1 ∧ Hid (Below w.heap.size w wr) ∧ Hid (Below w3.heap.size w3 wr))
  case atStart => exact ⟨0, rfl, Nat.zero_le _, by omega, HB, HC⟩
  case round =>
    clear HB HC
    obtain ⟨i, rfl, hi, hg1, HB, HC⟩ := hrel
    by_cases hli' : i < n
    · go_wp2_with fail
      go_loopg [46] (n + 1) (fun g2 vk wr2 => ∃ k : Nat, vk = .int .i64 (k : Int) ∧ k ≤ n ∧ n - k + 1 ≤ g2 ∧ Hid (Below w.heap.size w wr2) ∧ Hid (Below w3.heap.size w3 wr2))
      case atStart => exact ⟨0, rfl, Nat.zero_le _, by omega, HB, HC⟩
      case round =>
        clear HB HC
        obtain ⟨k, rfl, hk, hg2, HB, HC⟩ := hrel
        by_cases hlk : k < n
        · have hqi := HQ.out.cell hli'
          have hqk := HQ.out.cell hlk
          have hci := (HRW.out i hli')
          have hck := (HRW.out k hlk)
          have b1 := (HC.out.cell (p := ⟨ab, ao + i, none⟩) hli).trans hci
          have b2 := (HC.out.cell (p := ⟨ab, ao + k, none⟩) hli).trans hck
          have b3 := (HC.out.cell (p := ⟨Q, i, none⟩) hlq).trans hqi
          have b4 := (HC.out.cell (p := ⟨Q, k, none⟩) hlq).trans hqk
          have HORD := Lib.hid (HO.out i k hli' hlk)
          obtain ⟨c, hc⟩ : ∃ c, cmp3 (wt i : Int) (wt k : Int) = c := ⟨_, rfl⟩
          obtain ⟨d, hd⟩ : ∃ d, cmp3 (PP i : Int) (PP k : Int) = d := ⟨_, rfl⟩
          rw [hc, hd] at HORD
          have HCA := Lib.hid (fun W => compare_v (a := cS (wt i : Nat)) (b := cS (wt k : Nat)) W (HDV.out.sizewt hli') (HDV.out.sizewt hlk) (vS_cS _) (vS_cS _) hc)
          have HS1 := Lib.hid (rSize (z := A i) (HZ.out i hli'))
          have HS2 := Lib.hid (rSize (z := A k) (HZ.out k hlk))
          rw [HAP.out i] at HS1
          rw [HAP.out k] at HS2
          have HCB := Lib.hid (fun W => compare_v (a := cS (PP i : Nat)) (b := cS (PP k : Nat)) W (HPZ.out i hli') (HPZ.out k hlk) (vS_cS _) (vS_cS _) hd)
          have HSB := Lib.hid (fun W hG => sub_v (a := cS (PP i : Nat)) (b := cS (PP k : Nat)) (z := (PP i : Int) - (PP k : Int)) W hG (HPZ.out i hli') (HPZ.out k hlk) (vS_cS _) (vS_cS _) rfl)
          obtain ⟨y, hy⟩ : ∃ y, cmp3 ((PP i : Int) - (PP k : Int)) 1 = y := ⟨_, rfl⟩
          have HY := Lib.hid hy
          have HCM := Lib.hid (fun W (_ : Ground W) => compare_v (a := cS ((PP i : Int) - (PP k : Int))) (b := ⟨#[49]⟩) W (HDZ.out i k hli' hlk) (by decide) (vS_cS _) vS_one hy)
          unfold StrPost at HSB
          obtain ⟨wi, hwi⟩ : ∃ x, cS (wt i : Nat) = x := ⟨_, rfl⟩
          obtain ⟨wk, hwk⟩ : ∃ x, cS (wt k : Nat) = x := ⟨_, rfl⟩
          obtain ⟨li, hli2⟩ : ∃ x, cS (A i) = x := ⟨_, rfl⟩
          obtain ⟨lk, hlk2⟩ : ∃ x, cS (A k) = x := ⟨_, rfl⟩
          obtain ⟨si, hsi⟩ : ∃ x, cS (PP i : Nat) = x := ⟨_, rfl⟩
          obtain ⟨sk, hsk⟩ : ∃ x, cS (PP k : Nat) = x := ⟨_, rfl⟩
          obtain ⟨sb, hsb⟩ : ∃ x, cS ((PP i : Int) - (PP k : Int)) = x := ⟨_, rfl⟩
          rw [hwi] at hci b1
          rw [hwk] at hck b2
          rw [hwi, hwk] at HCA
          rw [hli2] at hqi b3 HS1
          rw [hlk2] at hqk b4 HS2
          rw [hsi] at HS1
          rw [hsk] at HS2
          rw [hsi, hsk] at HCB HSB
          rw [hsb] at HSB HCM
          have hcr := cmp3_range (wt i : Int) (wt k : Int)
          rw [hc] at hcr
          have hdr := cmp3_range (PP i : Int) (PP k : Int)
          rw [hd] at hdr
          clear hc hd hy hwi hwk hli2 hlk2 hsi hsk hsb
          go_wp2_with fail
          go_region_held3 (fun w' => w'.cell? ⟨ab, ao + i, none⟩ = some (.string wi) ∧ w'.cell? ⟨ab, ao + k, none⟩ = some (.string wk) ∧ w'.cell? ⟨Q, i, none⟩ = some (.string li) ∧ w'.cell? ⟨Q, k, none⟩ = some (.string lk))
            (go_keep)
            (first
            | (go_at_call 33;
                       (first
                       | (with_reducible refine Calls.mono (HCA.out _) ?_)
                       | (with_reducible refine Calls.mono (HCB.out _) ?_));
                       (rintro _ WX ⟨rfl, hB1⟩);
                       (have HB2 := Lib.hid (show Below w.heap.size w WX from by first | exact HB.out.trans (hB1.mono HB.out.size) | exact (below_drew HB.out).trans (hB1.mono HB.out.size) | exact (below_drewN HB.out _).trans (hB1.mono HB.out.size)));
                       (have HC2 := Lib.hid (show Below w3.heap.size w3 WX from by first | exact HC.out.trans (hB1.mono HC.out.size) | exact (below_drew HC.out).trans (hB1.mono HC.out.size) | exact (below_drewN HC.out _).trans (hB1.mono HC.out.size)));
                       (have cX1 := (HC2.out.cell (p := ⟨ab, ao + i, none⟩) hli).trans hci);
                       (have cX2 := (HC2.out.cell (p := ⟨ab, ao + k, none⟩) hli).trans hck);
                       (have cX3 := (HC2.out.cell (p := ⟨Q, i, none⟩) hlq).trans hqi);
                       (have cX4 := (HC2.out.cell (p := ⟨Q, k, none⟩) hlq).trans hqk);
                       (clear HB HC hB1);
                       (have HB := HB2);
                       (have HC := HC2);
                       (clear HB2 HC2))
            | (go_at_call 34;
                       (first
                       | (with_reducible refine Calls.mono (Ret.call HS1.out _ (by first | exact HG.out.below HB.out | exact HG.out.below (below_drew HB.out) | exact HG.out.below (below_drewN HB.out _))) ?_)
                       | (with_reducible refine Calls.mono (Ret.call HS2.out _ (by first | exact HG.out.below HB.out | exact HG.out.below (below_drew HB.out) | exact HG.out.below (below_drewN HB.out _))) ?_));
                       (rintro _ WX ⟨rfl, hB1⟩);
                       (have HB2 := Lib.hid (show Below w.heap.size w WX from by first | exact HB.out.trans (hB1.mono HB.out.size) | exact (below_drew HB.out).trans (hB1.mono HB.out.size) | exact (below_drewN HB.out _).trans (hB1.mono HB.out.size)));
                       (have HC2 := Lib.hid (show Below w3.heap.size w3 WX from by first | exact HC.out.trans (hB1.mono HC.out.size) | exact (below_drew HC.out).trans (hB1.mono HC.out.size) | exact (below_drewN HC.out _).trans (hB1.mono HC.out.size)));
                       (have cX1 := (HC2.out.cell (p := ⟨ab, ao + i, none⟩) hli).trans hci);
                       (have cX2 := (HC2.out.cell (p := ⟨ab, ao + k, none⟩) hli).trans hck);
                       (have cX3 := (HC2.out.cell (p := ⟨Q, i, none⟩) hlq).trans hqi);
                       (have cX4 := (HC2.out.cell (p := ⟨Q, k, none⟩) hlq).trans hqk);
                       (clear HB HC hB1);
                       (have HB := HB2);
                       (have HC := HC2);
                       (clear HB2 HC2)))
          clear b1 b2 b3 b4 cX1 cX2
          rcases (show c = 1 ∨ c = 0 ∨ c = -1 by omega) with rfl | rfl | rfl
          · have hd0 : d = 0 ∨ d = 1 := by have := HORD.out.up (by decide); omega
            clear hdr hcr
            rcases hd0 with rfl | rfl
            all_goals
              go_wp2_with fail
              refine wp_region_held_drew (S := fun w' => w'.cell? ⟨Q, i, none⟩ = some (.string li) ∧ w'.cell? ⟨Q, k, none⟩ = some (.string lk)) (by kernel_rfl) (by (try dsimp only); go_keep) (fun hHeld => ?_)
              refine wpAnyH_take (i := 0) (oi := { dst := some 69, op := Op.move (Operand.tmp 9), type := 3, pos := "law.go:117", after := #[], guard := none }) (v := ?_) rfl (by kernel_rfl) (by kernel_rfl) (by kernel_rfl) (fun _ _ _ h => h) (Or.inl ⟨by rfl, ?_⟩) (by assumption) ?_
              rotate_left
              focus ((intro w hSw; (try dsimp only at hSw); go_simp); (try with_reducible rfl))
              try simp only [Act.put, List.setIfInBounds_toArray, List.set_cons_zero, List.set_cons_succ]
              refine wpAnyH_take (i := 1) (oi := { dst := some 70, op := Op.binOp BinOp.gtr 3 (Operand.tmp 69) (Operand.const (Value.int IntKind.i64 0)) 3, type := 4, pos := "law.go:117", after := #[{ on := 0, ground := Ground.data }], guard := none }) (v := ?_) rfl (by kernel_rfl) (by kernel_rfl) (by kernel_rfl) (fun _ _ _ h => h) (Or.inl ⟨by rfl, ?_⟩) (by assumption) ?_
              rotate_left
              focus ((intro w hSw; (try dsimp only at hSw); go_simp); (try with_reducible rfl))
              try simp only [Act.put, List.setIfInBounds_toArray, List.set_cons_zero, List.set_cons_succ]
              refine wpAnyH_take (i := 2) (oi := { dst := some 71, op := Op.move (Operand.tmp 70), type := 4, pos := "law.go:117", after := #[{ on := 1, ground := Ground.data }], guard := none }) (v := ?_) rfl (by kernel_rfl) (by kernel_rfl) (by kernel_rfl) (fun _ _ _ h => h) (Or.inl ⟨by rfl, ?_⟩) (by assumption) ?_
              rotate_left
              focus ((intro w hSw; (try dsimp only at hSw); go_simp); (try with_reducible rfl))
              try simp only [Act.put, List.setIfInBounds_toArray, List.set_cons_zero, List.set_cons_succ]
              refine wpAnyH_take (i := 3) (oi := { dst := some 72, op := Op.move (Operand.tmp 10), type := 3, pos := "law.go:117", after := #[{ on := 2, ground := Ground.guard }], guard := some (2, true) }) (v := ?_) rfl (by kernel_rfl) (by kernel_rfl) (by kernel_rfl) (fun _ _ _ h => h) (Or.inl ⟨by rfl, ?_⟩) (by assumption) ?_
              rotate_left
              focus ((intro w hSw; (try dsimp only at hSw); go_simp); (try with_reducible rfl))
              try simp only [Act.put, List.setIfInBounds_toArray, List.set_cons_zero, List.set_cons_succ]
              refine wpAnyH_take (i := 4) (oi := { dst := some 73, op := Op.binOp BinOp.lss 3 (Operand.tmp 72) (Operand.const (Value.int IntKind.i64 0)) 3, type := 4, pos := "law.go:117", after := #[{ on := 3, ground := Ground.data }, { on := 2, ground := Ground.guard }], guard := some (2, true) }) (v := ?_) rfl (by kernel_rfl) (by kernel_rfl) (by kernel_rfl) (fun _ _ _ h => h) (Or.inl ⟨by rfl, ?_⟩) (by assumption) ?_
              rotate_left
              focus ((intro w hSw; (try dsimp only at hSw); go_simp); (try with_reducible rfl))
              try simp only [Act.put, List.setIfInBounds_toArray, List.set_cons_zero, List.set_cons_succ]
              refine wpAnyH_take (i := 5) (oi := { dst := some 74, op := Op.pick (Operand.tmp 71) (Operand.tmp 73) (Operand.const (Value.bool false)), type := 4, pos := "law.go:117", after := #[{ on := 2, ground := Ground.data }, { on := 4, ground := Ground.data }], guard := none }) (v := ?_) rfl (by kernel_rfl) (by kernel_rfl) (by kernel_rfl) (fun _ _ _ h => h) (Or.inl ⟨by rfl, ?_⟩) (by assumption) ?_
              rotate_left
              focus ((intro w hSw; (try dsimp only at hSw); go_simp); (try with_reducible rfl))
              try simp only [Act.put, List.setIfInBounds_toArray, List.set_cons_zero, List.set_cons_succ]
              refine wpAnyH_take (i := 6) (oi := { dst := some 75, op := Op.move (Operand.tmp 74), type := 4, pos := "law.go:117", after := #[{ on := 5, ground := Ground.data }, { on := 2, ground := Ground.chain }], guard := none }) (v := ?_) rfl (by kernel_rfl) (by kernel_rfl) (by kernel_rfl) (fun _ _ _ h => h) (Or.inl ⟨by rfl, ?_⟩) (by assumption) ?_
              rotate_left
              focus ((intro w hSw; (try dsimp only at hSw); go_simp); (try with_reducible rfl))
              try simp only [Act.put, List.setIfInBounds_toArray, List.set_cons_zero, List.set_cons_succ]
              refine wpAnyH_take (i := 7) (oi := { dst := some 76, op := Op.move (Operand.tmp 9), type := 3, pos := "law.go:117", after := #[{ on := 6, ground := Ground.guard }], guard := some (6, false) }) (v := ?_) rfl (by kernel_rfl) (by kernel_rfl) (by kernel_rfl) (fun _ _ _ h => h) (Or.inl ⟨by rfl, ?_⟩) (by assumption) ?_
              rotate_left
              focus ((intro w hSw; (try dsimp only at hSw); go_simp); (try with_reducible rfl))
              try simp only [Act.put, List.setIfInBounds_toArray, List.set_cons_zero, List.set_cons_succ]
              refine wpAnyH_take (i := 8) (oi := { dst := some 77, op := Op.binOp BinOp.eql 3 (Operand.tmp 76) (Operand.const (Value.int IntKind.i64 0)) 3, type := 4, pos := "law.go:117", after := #[{ on := 7, ground := Ground.data }, { on := 6, ground := Ground.guard }], guard := some (6, false) }) (v := ?_) rfl (by kernel_rfl) (by kernel_rfl) (by kernel_rfl) (fun _ _ _ h => h) (Or.inl ⟨by rfl, ?_⟩) (by assumption) ?_
              rotate_left
              focus ((intro w hSw; (try dsimp only at hSw); go_simp); (try with_reducible rfl))
              try simp only [Act.put, List.setIfInBounds_toArray, List.set_cons_zero, List.set_cons_succ]
              refine wpAnyH_take (i := 9) (oi := { dst := some 78, op := Op.move (Operand.tmp 77), type := 4, pos := "law.go:117", after := #[{ on := 8, ground := Ground.data }, { on := 6, ground := Ground.chain }, { on := 6, ground := Ground.guard }], guard := some (6, false) }) (v := ?_) rfl (by kernel_rfl) (by kernel_rfl) (by kernel_rfl) (fun _ _ _ h => h) (Or.inl ⟨by rfl, ?_⟩) (by assumption) ?_
              rotate_left
              focus ((intro w hSw; (try dsimp only at hSw); go_simp); (try with_reducible rfl))
              try simp only [Act.put, List.setIfInBounds_toArray, List.set_cons_zero, List.set_cons_succ]
              refine wpAnyH_take (i := 10) (oi := { dst := some 79, op := Op.move (Operand.tmp 7), type := 3, pos := "law.go:117", after := #[{ on := 9, ground := Ground.guard }], guard := some (9, true) }) (v := undef) rfl (by kernel_rfl) (by kernel_rfl) (by kernel_rfl) (fun _ _ _ h => h) (Or.inr ⟨by rfl, rfl⟩) (by assumption) ?_
              try simp only [Act.put, List.setIfInBounds_toArray, List.set_cons_zero, List.set_cons_succ]
              refine wpAnyH_take (i := 11) (oi := { dst := some 80, op := Op.move (Operand.tmp 8), type := 3, pos := "law.go:117", after := #[{ on := 9, ground := Ground.guard }], guard := some (9, true) }) (v := undef) rfl (by kernel_rfl) (by kernel_rfl) (by kernel_rfl) (fun _ _ _ h => h) (Or.inr ⟨by rfl, rfl⟩) (by assumption) ?_
              try simp only [Act.put, List.setIfInBounds_toArray, List.set_cons_zero, List.set_cons_succ]
              refine wpAnyH_take (i := 12) (oi := { dst := some 81, op := Op.binOp BinOp.lss 3 (Operand.tmp 79) (Operand.tmp 80) 3, type := 4, pos := "law.go:117", after := #[{ on := 10, ground := Ground.data }, { on := 11, ground := Ground.data }, { on := 9, ground := Ground.guard }], guard := some (9, true) }) (v := undef) rfl (by kernel_rfl) (by kernel_rfl) (by kernel_rfl) (fun _ _ _ h => h) (Or.inr ⟨by rfl, rfl⟩) (by assumption) ?_
              try simp only [Act.put, List.setIfInBounds_toArray, List.set_cons_zero, List.set_cons_succ]
              refine wpAnyH_take (i := 13) (oi := { dst := some 82, op := Op.pick (Operand.tmp 78) (Operand.tmp 81) (Operand.const (Value.bool false)), type := 4, pos := "law.go:117", after := #[{ on := 9, ground := Ground.data }, { on := 12, ground := Ground.data }, { on := 6, ground := Ground.guard }], guard := some (6, false) }) (v := ?_) rfl (by kernel_rfl) (by kernel_rfl) (by kernel_rfl) (fun _ _ _ h => h) (Or.inl ⟨by rfl, ?_⟩) (by assumption) ?_
              rotate_left
              focus ((intro w hSw; (try dsimp only at hSw); go_simp); (try with_reducible rfl))
              try simp only [Act.put, List.setIfInBounds_toArray, List.set_cons_zero, List.set_cons_succ]
              refine wpAnyH_take (i := 14) (oi := { dst := some 83, op := Op.move (Operand.tmp 82), type := 4, pos := "law.go:117", after := #[{ on := 13, ground := Ground.data }, { on := 9, ground := Ground.chain }, { on := 6, ground := Ground.guard }], guard := some (6, false) }) (v := ?_) rfl (by kernel_rfl) (by kernel_rfl) (by kernel_rfl) (fun _ _ _ h => h) (Or.inl ⟨by rfl, ?_⟩) (by assumption) ?_
              rotate_left
              focus ((intro w hSw; (try dsimp only at hSw); go_simp); (try with_reducible rfl))
              try simp only [Act.put, List.setIfInBounds_toArray, List.set_cons_zero, List.set_cons_succ]
              refine wpAnyH_take (i := 15) (oi := { dst := some 84, op := Op.move (Operand.tmp 10), type := 3, pos := "law.go:117", after := #[{ on := 14, ground := Ground.guard }], guard := some (14, true) }) (v := undef) rfl (by kernel_rfl) (by kernel_rfl) (by kernel_rfl) (fun _ _ _ h => h) (Or.inr ⟨by rfl, rfl⟩) (by assumption) ?_
              try simp only [Act.put, List.setIfInBounds_toArray, List.set_cons_zero, List.set_cons_succ]
              refine wpAnyH_take (i := 16) (oi := { dst := some 85, op := Op.binOp BinOp.lss 3 (Operand.tmp 84) (Operand.const (Value.int IntKind.i64 0)) 3, type := 4, pos := "law.go:117", after := #[{ on := 15, ground := Ground.data }, { on := 14, ground := Ground.guard }], guard := some (14, true) }) (v := undef) rfl (by kernel_rfl) (by kernel_rfl) (by kernel_rfl) (fun _ _ _ h => h) (Or.inr ⟨by rfl, rfl⟩) (by assumption) ?_
              try simp only [Act.put, List.setIfInBounds_toArray, List.set_cons_zero, List.set_cons_succ]
              refine wpAnyH_take (i := 17) (oi := { dst := some 86, op := Op.move (Operand.tmp 85), type := 4, pos := "law.go:117", after := #[{ on := 16, ground := Ground.data }, { on := 14, ground := Ground.chain }, { on := 14, ground := Ground.guard }], guard := some (14, true) }) (v := undef) rfl (by kernel_rfl) (by kernel_rfl) (by kernel_rfl) (fun _ _ _ h => h) (Or.inr ⟨by rfl, rfl⟩) (by assumption) ?_
              try simp only [Act.put, List.setIfInBounds_toArray, List.set_cons_zero, List.set_cons_succ]
              refine wpAnyH_take (i := 18) (oi := { dst := some 87, op := Op.move (Operand.tmp 5), type := 23, pos := "law.go:117", after := #[{ on := 17, ground := Ground.guard }], guard := some (17, false) }) (v := undef) rfl (by kernel_rfl) (by kernel_rfl) (by kernel_rfl) (fun _ _ _ h => h) (Or.inr ⟨by rfl, rfl⟩) (by assumption) ?_
              try simp only [Act.put, List.setIfInBounds_toArray, List.set_cons_zero, List.set_cons_succ]
              refine wpAnyH_take (i := 19) (oi := { dst := some 88, op := Op.move (Operand.tmp 7), type := 3, pos := "law.go:117", after := #[{ on := 17, ground := Ground.guard }], guard := some (17, false) }) (v := undef) rfl (by kernel_rfl) (by kernel_rfl) (by kernel_rfl) (fun _ _ _ h => h) (Or.inr ⟨by rfl, rfl⟩) (by assumption) ?_
              try simp only [Act.put, List.setIfInBounds_toArray, List.set_cons_zero, List.set_cons_succ]
              refine wpAnyH_take (i := 20) (oi := { dst := some 89, op := Op.indexAddr 23 (Operand.tmp 87) (Operand.tmp 88), type := 0, pos := "law.go:117", after := #[{ on := 18, ground := Ground.data }, { on := 19, ground := Ground.data }, { on := 17, ground := Ground.guard }], guard := some (17, false) }) (v := undef) rfl (by kernel_rfl) (by kernel_rfl) (by kernel_rfl) (fun _ _ _ h => h) (Or.inr ⟨by rfl, rfl⟩) (by assumption) ?_
              try simp only [Act.put, List.setIfInBounds_toArray, List.set_cons_zero, List.set_cons_succ]
              refine wpAnyH_take (i := 21) (oi := { dst := some 90, op := Op.load 22 (Operand.tmp 89), type := 22, pos := "law.go:117", after := #[{ on := 20, ground := Ground.data }, { on := 17, ground := Ground.guard }], guard := some (17, false) }) (v := undef) rfl (by kernel_rfl) (by kernel_rfl) (by kernel_rfl) (fun _ _ _ h => h) (Or.inr ⟨by rfl, rfl⟩) (by assumption) ?_
              try simp only [Act.put, List.setIfInBounds_toArray, List.set_cons_zero, List.set_cons_succ]
              refine wpAnyH_take (i := 22) (oi := { dst := some 91, op := Op.call { callee := Callee.value (Operand.func 34), args := #[Operand.tmp 90], argTypes := #[22] }, type := 22, pos := "law.go:117", after := #[{ on := 21, ground := Ground.data }, { on := 17, ground := Ground.chain }, { on := 17, ground := Ground.guard }], guard := some (17, false) }) (v := undef) rfl (by kernel_rfl) (by kernel_rfl) (by kernel_rfl) (fun _ _ _ h => h) (Or.inr ⟨by rfl, rfl⟩) (by assumption) ?_
              try simp only [Act.put, List.setIfInBounds_toArray, List.set_cons_zero, List.set_cons_succ]
              refine wpAnyH_take (i := 23) (oi := { dst := some 92, op := Op.move (Operand.tmp 5), type := 23, pos := "law.go:117", after := #[{ on := 17, ground := Ground.guard }], guard := some (17, false) }) (v := undef) rfl (by kernel_rfl) (by kernel_rfl) (by kernel_rfl) (fun _ _ _ h => h) (Or.inr ⟨by rfl, rfl⟩) (by assumption) ?_
              try simp only [Act.put, List.setIfInBounds_toArray, List.set_cons_zero, List.set_cons_succ]
              refine wpAnyH_take (i := 24) (oi := { dst := some 93, op := Op.move (Operand.tmp 8), type := 3, pos := "law.go:117", after := #[{ on := 17, ground := Ground.guard }], guard := some (17, false) }) (v := undef) rfl (by kernel_rfl) (by kernel_rfl) (by kernel_rfl) (fun _ _ _ h => h) (Or.inr ⟨by rfl, rfl⟩) (by assumption) ?_
              try simp only [Act.put, List.setIfInBounds_toArray, List.set_cons_zero, List.set_cons_succ]
              refine wpAnyH_take (i := 25) (oi := { dst := some 94, op := Op.indexAddr 23 (Operand.tmp 92) (Operand.tmp 93), type := 0, pos := "law.go:117", after := #[{ on := 23, ground := Ground.data }, { on := 24, ground := Ground.data }, { on := 17, ground := Ground.guard }], guard := some (17, false) }) (v := undef) rfl (by kernel_rfl) (by kernel_rfl) (by kernel_rfl) (fun _ _ _ h => h) (Or.inr ⟨by rfl, rfl⟩) (by assumption) ?_
              try simp only [Act.put, List.setIfInBounds_toArray, List.set_cons_zero, List.set_cons_succ]
              refine wpAnyH_take (i := 26) (oi := { dst := some 95, op := Op.load 22 (Operand.tmp 94), type := 22, pos := "law.go:117", after := #[{ on := 25, ground := Ground.data }, { on := 17, ground := Ground.guard }], guard := some (17, false) }) (v := undef) rfl (by kernel_rfl) (by kernel_rfl) (by kernel_rfl) (fun _ _ _ h => h) (Or.inr ⟨by rfl, rfl⟩) (by assumption) ?_
              try simp only [Act.put, List.setIfInBounds_toArray, List.set_cons_zero, List.set_cons_succ]
              refine wpAnyH_take (i := 27) (oi := { dst := some 96, op := Op.call { callee := Callee.value (Operand.func 34), args := #[Operand.tmp 95], argTypes := #[22] }, type := 22, pos := "law.go:117", after := #[{ on := 26, ground := Ground.data }, { on := 22, ground := Ground.chain }, { on := 17, ground := Ground.guard }], guard := some (17, false) }) (v := undef) rfl (by kernel_rfl) (by kernel_rfl) (by kernel_rfl) (fun _ _ _ h => h) (Or.inr ⟨by rfl, rfl⟩) (by assumption) ?_
              try simp only [Act.put, List.setIfInBounds_toArray, List.set_cons_zero, List.set_cons_succ]
              refine wpAnyH_take (i := 28) (oi := { dst := some 97, op := Op.call { callee := Callee.value (Operand.func 35), args := #[Operand.tmp 91, Operand.tmp 96], argTypes := #[22, 22] }, type := 22, pos := "law.go:117", after := #[{ on := 22, ground := Ground.data }, { on := 27, ground := Ground.data }, { on := 27, ground := Ground.chain }, { on := 17, ground := Ground.guard }], guard := some (17, false) }) (v := undef) rfl (by kernel_rfl) (by kernel_rfl) (by kernel_rfl) (fun _ _ _ h => h) (Or.inr ⟨by rfl, rfl⟩) (by assumption) ?_
              try simp only [Act.put, List.setIfInBounds_toArray, List.set_cons_zero, List.set_cons_succ]
              refine wpAnyH_take (i := 29) (oi := { dst := some 98, op := Op.call { callee := Callee.value (Operand.func 33), args := #[Operand.tmp 97, Operand.const (Value.string { data := #[49] })], argTypes := #[22, 22] }, type := 3, pos := "law.go:117", after := #[{ on := 28, ground := Ground.data }, { on := 28, ground := Ground.chain }, { on := 17, ground := Ground.guard }], guard := some (17, false) }) (v := undef) rfl (by kernel_rfl) (by kernel_rfl) (by kernel_rfl) (fun _ _ _ h => h) (Or.inr ⟨by rfl, rfl⟩) (by assumption) ?_
              try simp only [Act.put, List.setIfInBounds_toArray, List.set_cons_zero, List.set_cons_succ]
              refine wpAnyH_take (i := 30) (oi := { dst := some 99, op := Op.binOp BinOp.gtr 3 (Operand.tmp 98) (Operand.const (Value.int IntKind.i64 0)) 3, type := 4, pos := "law.go:117", after := #[{ on := 29, ground := Ground.data }, { on := 17, ground := Ground.guard }], guard := some (17, false) }) (v := undef) rfl (by kernel_rfl) (by kernel_rfl) (by kernel_rfl) (fun _ _ _ h => h) (Or.inr ⟨by rfl, rfl⟩) (by assumption) ?_
              try simp only [Act.put, List.setIfInBounds_toArray, List.set_cons_zero, List.set_cons_succ]
              refine wpAnyH_take (i := 31) (oi := { dst := some 100, op := Op.pick (Operand.tmp 86) (Operand.const (Value.bool true)) (Operand.tmp 99), type := 4, pos := "law.go:117", after := #[{ on := 17, ground := Ground.data }, { on := 30, ground := Ground.data }, { on := 14, ground := Ground.guard }], guard := some (14, true) }) (v := undef) rfl (by kernel_rfl) (by kernel_rfl) (by kernel_rfl) (fun _ _ _ h => h) (Or.inr ⟨by rfl, rfl⟩) (by assumption) ?_
              try simp only [Act.put, List.setIfInBounds_toArray, List.set_cons_zero, List.set_cons_succ]
              refine wpAnyH_take (i := 32) (oi := { dst := some 101, op := Op.pick (Operand.tmp 83) (Operand.tmp 100) (Operand.const (Value.bool false)), type := 4, pos := "law.go:117", after := #[{ on := 14, ground := Ground.data }, { on := 31, ground := Ground.data }, { on := 6, ground := Ground.guard }], guard := some (6, false) }) (v := ?_) rfl (by kernel_rfl) (by kernel_rfl) (by kernel_rfl) (fun _ _ _ h => h) (Or.inl ⟨by rfl, ?_⟩) (by assumption) ?_
              rotate_left
              focus ((intro w hSw; (try dsimp only at hSw); go_simp); (try with_reducible rfl))
              try simp only [Act.put, List.setIfInBounds_toArray, List.set_cons_zero, List.set_cons_succ]
              refine wpAnyH_take (i := 33) (oi := { dst := some 102, op := Op.pick (Operand.tmp 75) (Operand.const (Value.bool true)) (Operand.tmp 101), type := 4, pos := "law.go:117", after := #[{ on := 6, ground := Ground.data }, { on := 32, ground := Ground.data }], guard := none }) (v := ?_) rfl (by kernel_rfl) (by kernel_rfl) (by kernel_rfl) (fun _ _ _ h => h) (Or.inl ⟨by rfl, ?_⟩) (by assumption) ?_
              rotate_left
              focus ((intro w hSw; (try dsimp only at hSw); go_simp); (try with_reducible rfl))
              try simp only [Act.put, List.setIfInBounds_toArray, List.set_cons_zero, List.set_cons_succ]
              refine wpAnyH_done (by kernel_rfl) ?_ _
              clear hHeld
              have HB3 := Lib.hid (below_drew HB.out)
              have HC3 := Lib.hid (below_drew HC.out)
              clear HB HC
              go_wp2_with fail
              go_roundg (n - (k + 1) + 1)
              case measure => omega
              case rel => exact ⟨k + 1, by first | rfl | go_num, by omega, by omega, HB3, HC3⟩
          · by_cases hik : i < k
            · have hikz : (i : Int) < (k : Int) := by omega
              have hsame := HORD.out.same rfl hik
              have hd0 : d = 0 ∨ d = 1 := by omega
              have hy0 : y = -1 ∨ y = 0 := by
                have h1 := cmp3_range ((PP i : Int) - (PP k : Int)) 1
                have h2 := cmp3_pos ((PP i : Int) - (PP k : Int)) 1
                rw [HY.out] at h1 h2
                omega
              clear hsame hdr hcr HY
              rcases hd0 with rfl | rfl <;> rcases hy0 with rfl | rfl
              all_goals
                go_wp2_with fail
                refine wp_region_held_drew (S := fun w' => w'.cell? ⟨Q, i, none⟩ = some (.string li) ∧ w'.cell? ⟨Q, k, none⟩ = some (.string lk)) (by kernel_rfl) (by (try dsimp only); go_keep) (fun hHeld => ?_)
                refine wpAnyH_take (i := 0) (oi := { dst := some 69, op := Op.move (Operand.tmp 9), type := 3, pos := "law.go:117", after := #[], guard := none }) (v := ?_) rfl (by kernel_rfl) (by kernel_rfl) (by kernel_rfl) (fun _ _ _ h => h) (Or.inl ⟨by rfl, ?_⟩) (by assumption) ?_
                rotate_left
                focus ((intro w hSw; (try dsimp only at hSw); go_simp); (try with_reducible rfl))
                try simp only [Act.put, List.setIfInBounds_toArray, List.set_cons_zero, List.set_cons_succ]
                refine wpAnyH_take (i := 1) (oi := { dst := some 70, op := Op.binOp BinOp.gtr 3 (Operand.tmp 69) (Operand.const (Value.int IntKind.i64 0)) 3, type := 4, pos := "law.go:117", after := #[{ on := 0, ground := Ground.data }], guard := none }) (v := ?_) rfl (by kernel_rfl) (by kernel_rfl) (by kernel_rfl) (fun _ _ _ h => h) (Or.inl ⟨by rfl, ?_⟩) (by assumption) ?_
                rotate_left
                focus ((intro w hSw; (try dsimp only at hSw); go_simp); (try with_reducible rfl))
                try simp only [Act.put, List.setIfInBounds_toArray, List.set_cons_zero, List.set_cons_succ]
                refine wpAnyH_take (i := 2) (oi := { dst := some 71, op := Op.move (Operand.tmp 70), type := 4, pos := "law.go:117", after := #[{ on := 1, ground := Ground.data }], guard := none }) (v := ?_) rfl (by kernel_rfl) (by kernel_rfl) (by kernel_rfl) (fun _ _ _ h => h) (Or.inl ⟨by rfl, ?_⟩) (by assumption) ?_
                rotate_left
                focus ((intro w hSw; (try dsimp only at hSw); go_simp); (try with_reducible rfl))
                try simp only [Act.put, List.setIfInBounds_toArray, List.set_cons_zero, List.set_cons_succ]
                refine wpAnyH_take (i := 3) (oi := { dst := some 72, op := Op.move (Operand.tmp 10), type := 3, pos := "law.go:117", after := #[{ on := 2, ground := Ground.guard }], guard := some (2, true) }) (v := undef) rfl (by kernel_rfl) (by kernel_rfl) (by kernel_rfl) (fun _ _ _ h => h) (Or.inr ⟨by rfl, rfl⟩) (by assumption) ?_
                try simp only [Act.put, List.setIfInBounds_toArray, List.set_cons_zero, List.set_cons_succ]
                refine wpAnyH_take (i := 4) (oi := { dst := some 73, op := Op.binOp BinOp.lss 3 (Operand.tmp 72) (Operand.const (Value.int IntKind.i64 0)) 3, type := 4, pos := "law.go:117", after := #[{ on := 3, ground := Ground.data }, { on := 2, ground := Ground.guard }], guard := some (2, true) }) (v := undef) rfl (by kernel_rfl) (by kernel_rfl) (by kernel_rfl) (fun _ _ _ h => h) (Or.inr ⟨by rfl, rfl⟩) (by assumption) ?_
                try simp only [Act.put, List.setIfInBounds_toArray, List.set_cons_zero, List.set_cons_succ]
                refine wpAnyH_take (i := 5) (oi := { dst := some 74, op := Op.pick (Operand.tmp 71) (Operand.tmp 73) (Operand.const (Value.bool false)), type := 4, pos := "law.go:117", after := #[{ on := 2, ground := Ground.data }, { on := 4, ground := Ground.data }], guard := none }) (v := ?_) rfl (by kernel_rfl) (by kernel_rfl) (by kernel_rfl) (fun _ _ _ h => h) (Or.inl ⟨by rfl, ?_⟩) (by assumption) ?_
                rotate_left
                focus ((intro w hSw; (try dsimp only at hSw); go_simp); (try with_reducible rfl))
                try simp only [Act.put, List.setIfInBounds_toArray, List.set_cons_zero, List.set_cons_succ]
                refine wpAnyH_take (i := 6) (oi := { dst := some 75, op := Op.move (Operand.tmp 74), type := 4, pos := "law.go:117", after := #[{ on := 5, ground := Ground.data }, { on := 2, ground := Ground.chain }], guard := none }) (v := ?_) rfl (by kernel_rfl) (by kernel_rfl) (by kernel_rfl) (fun _ _ _ h => h) (Or.inl ⟨by rfl, ?_⟩) (by assumption) ?_
                rotate_left
                focus ((intro w hSw; (try dsimp only at hSw); go_simp); (try with_reducible rfl))
                try simp only [Act.put, List.setIfInBounds_toArray, List.set_cons_zero, List.set_cons_succ]
                refine wpAnyH_take (i := 7) (oi := { dst := some 76, op := Op.move (Operand.tmp 9), type := 3, pos := "law.go:117", after := #[{ on := 6, ground := Ground.guard }], guard := some (6, false) }) (v := ?_) rfl (by kernel_rfl) (by kernel_rfl) (by kernel_rfl) (fun _ _ _ h => h) (Or.inl ⟨by rfl, ?_⟩) (by assumption) ?_
                rotate_left
                focus ((intro w hSw; (try dsimp only at hSw); go_simp); (try with_reducible rfl))
                try simp only [Act.put, List.setIfInBounds_toArray, List.set_cons_zero, List.set_cons_succ]
                refine wpAnyH_take (i := 8) (oi := { dst := some 77, op := Op.binOp BinOp.eql 3 (Operand.tmp 76) (Operand.const (Value.int IntKind.i64 0)) 3, type := 4, pos := "law.go:117", after := #[{ on := 7, ground := Ground.data }, { on := 6, ground := Ground.guard }], guard := some (6, false) }) (v := ?_) rfl (by kernel_rfl) (by kernel_rfl) (by kernel_rfl) (fun _ _ _ h => h) (Or.inl ⟨by rfl, ?_⟩) (by assumption) ?_
                rotate_left
                focus ((intro w hSw; (try dsimp only at hSw); go_simp); (try with_reducible rfl))
                try simp only [Act.put, List.setIfInBounds_toArray, List.set_cons_zero, List.set_cons_succ]
                refine wpAnyH_take (i := 9) (oi := { dst := some 78, op := Op.move (Operand.tmp 77), type := 4, pos := "law.go:117", after := #[{ on := 8, ground := Ground.data }, { on := 6, ground := Ground.chain }, { on := 6, ground := Ground.guard }], guard := some (6, false) }) (v := ?_) rfl (by kernel_rfl) (by kernel_rfl) (by kernel_rfl) (fun _ _ _ h => h) (Or.inl ⟨by rfl, ?_⟩) (by assumption) ?_
                rotate_left
                focus ((intro w hSw; (try dsimp only at hSw); go_simp); (try with_reducible rfl))
                try simp only [Act.put, List.setIfInBounds_toArray, List.set_cons_zero, List.set_cons_succ]
                refine wpAnyH_take (i := 10) (oi := { dst := some 79, op := Op.move (Operand.tmp 7), type := 3, pos := "law.go:117", after := #[{ on := 9, ground := Ground.guard }], guard := some (9, true) }) (v := ?_) rfl (by kernel_rfl) (by kernel_rfl) (by kernel_rfl) (fun _ _ _ h => h) (Or.inl ⟨by rfl, ?_⟩) (by assumption) ?_
                rotate_left
                focus ((intro w hSw; (try dsimp only at hSw); go_simp); (try with_reducible rfl))
                try simp only [Act.put, List.setIfInBounds_toArray, List.set_cons_zero, List.set_cons_succ]
                refine wpAnyH_take (i := 11) (oi := { dst := some 80, op := Op.move (Operand.tmp 8), type := 3, pos := "law.go:117", after := #[{ on := 9, ground := Ground.guard }], guard := some (9, true) }) (v := ?_) rfl (by kernel_rfl) (by kernel_rfl) (by kernel_rfl) (fun _ _ _ h => h) (Or.inl ⟨by rfl, ?_⟩) (by assumption) ?_
                rotate_left
                focus ((intro w hSw; (try dsimp only at hSw); go_simp); (try with_reducible rfl))
                try simp only [Act.put, List.setIfInBounds_toArray, List.set_cons_zero, List.set_cons_succ]
                refine wpAnyH_take (i := 12) (oi := { dst := some 81, op := Op.binOp BinOp.lss 3 (Operand.tmp 79) (Operand.tmp 80) 3, type := 4, pos := "law.go:117", after := #[{ on := 10, ground := Ground.data }, { on := 11, ground := Ground.data }, { on := 9, ground := Ground.guard }], guard := some (9, true) }) (v := ?_) rfl (by kernel_rfl) (by kernel_rfl) (by kernel_rfl) (fun _ _ _ h => h) (Or.inl ⟨by rfl, ?_⟩) (by assumption) ?_
                rotate_left
                focus ((intro w hSw; (try dsimp only at hSw); go_simp); (try with_reducible rfl))
                try simp only [Act.put, List.setIfInBounds_toArray, List.set_cons_zero, List.set_cons_succ]
                refine wpAnyH_take (i := 13) (oi := { dst := some 82, op := Op.pick (Operand.tmp 78) (Operand.tmp 81) (Operand.const (Value.bool false)), type := 4, pos := "law.go:117", after := #[{ on := 9, ground := Ground.data }, { on := 12, ground := Ground.data }, { on := 6, ground := Ground.guard }], guard := some (6, false) }) (v := ?_) rfl (by kernel_rfl) (by kernel_rfl) (by kernel_rfl) (fun _ _ _ h => h) (Or.inl ⟨by rfl, ?_⟩) (by assumption) ?_
                rotate_left
                focus ((intro w hSw; (try dsimp only at hSw); go_simp); (try with_reducible rfl))
                try simp only [Act.put, List.setIfInBounds_toArray, List.set_cons_zero, List.set_cons_succ]
                refine wpAnyH_take (i := 14) (oi := { dst := some 83, op := Op.move (Operand.tmp 82), type := 4, pos := "law.go:117", after := #[{ on := 13, ground := Ground.data }, { on := 9, ground := Ground.chain }, { on := 6, ground := Ground.guard }], guard := some (6, false) }) (v := ?_) rfl (by kernel_rfl) (by kernel_rfl) (by kernel_rfl) (fun _ _ _ h => h) (Or.inl ⟨by rfl, ?_⟩) (by assumption) ?_
                rotate_left
                focus ((intro w hSw; (try dsimp only at hSw); go_simp); (try with_reducible rfl))
                try simp only [Act.put, List.setIfInBounds_toArray, List.set_cons_zero, List.set_cons_succ]
                refine wpAnyH_take (i := 15) (oi := { dst := some 84, op := Op.move (Operand.tmp 10), type := 3, pos := "law.go:117", after := #[{ on := 14, ground := Ground.guard }], guard := some (14, true) }) (v := ?_) rfl (by kernel_rfl) (by kernel_rfl) (by kernel_rfl) (fun _ _ _ h => h) (Or.inl ⟨by rfl, ?_⟩) (by assumption) ?_
                rotate_left
                focus ((intro w hSw; (try dsimp only at hSw); go_simp); (try with_reducible rfl))
                try simp only [Act.put, List.setIfInBounds_toArray, List.set_cons_zero, List.set_cons_succ]
                refine wpAnyH_take (i := 16) (oi := { dst := some 85, op := Op.binOp BinOp.lss 3 (Operand.tmp 84) (Operand.const (Value.int IntKind.i64 0)) 3, type := 4, pos := "law.go:117", after := #[{ on := 15, ground := Ground.data }, { on := 14, ground := Ground.guard }], guard := some (14, true) }) (v := ?_) rfl (by kernel_rfl) (by kernel_rfl) (by kernel_rfl) (fun _ _ _ h => h) (Or.inl ⟨by rfl, ?_⟩) (by assumption) ?_
                rotate_left
                focus ((intro w hSw; (try dsimp only at hSw); go_simp); (try with_reducible rfl))
                try simp only [Act.put, List.setIfInBounds_toArray, List.set_cons_zero, List.set_cons_succ]
                refine wpAnyH_take (i := 17) (oi := { dst := some 86, op := Op.move (Operand.tmp 85), type := 4, pos := "law.go:117", after := #[{ on := 16, ground := Ground.data }, { on := 14, ground := Ground.chain }, { on := 14, ground := Ground.guard }], guard := some (14, true) }) (v := ?_) rfl (by kernel_rfl) (by kernel_rfl) (by kernel_rfl) (fun _ _ _ h => h) (Or.inl ⟨by rfl, ?_⟩) (by assumption) ?_
                rotate_left
                focus ((intro w hSw; (try dsimp only at hSw); go_simp); (try with_reducible rfl))
                try simp only [Act.put, List.setIfInBounds_toArray, List.set_cons_zero, List.set_cons_succ]
                refine wpAnyH_take (i := 18) (oi := { dst := some 87, op := Op.move (Operand.tmp 5), type := 23, pos := "law.go:117", after := #[{ on := 17, ground := Ground.guard }], guard := some (17, false) }) (v := ?_) rfl (by kernel_rfl) (by kernel_rfl) (by kernel_rfl) (fun _ _ _ h => h) (Or.inl ⟨by rfl, ?_⟩) (by assumption) ?_
                rotate_left
                focus ((intro w hSw; (try dsimp only at hSw); go_simp); (try with_reducible rfl))
                try simp only [Act.put, List.setIfInBounds_toArray, List.set_cons_zero, List.set_cons_succ]
                refine wpAnyH_take (i := 19) (oi := { dst := some 88, op := Op.move (Operand.tmp 7), type := 3, pos := "law.go:117", after := #[{ on := 17, ground := Ground.guard }], guard := some (17, false) }) (v := ?_) rfl (by kernel_rfl) (by kernel_rfl) (by kernel_rfl) (fun _ _ _ h => h) (Or.inl ⟨by rfl, ?_⟩) (by assumption) ?_
                rotate_left
                focus ((intro w hSw; (try dsimp only at hSw); go_simp); (try with_reducible rfl))
                try simp only [Act.put, List.setIfInBounds_toArray, List.set_cons_zero, List.set_cons_succ]
                refine wpAnyH_take (i := 20) (oi := { dst := some 89, op := Op.indexAddr 23 (Operand.tmp 87) (Operand.tmp 88), type := 0, pos := "law.go:117", after := #[{ on := 18, ground := Ground.data }, { on := 19, ground := Ground.data }, { on := 17, ground := Ground.guard }], guard := some (17, false) }) (v := ?_) rfl (by kernel_rfl) (by kernel_rfl) (by kernel_rfl) (fun _ _ _ h => h) (Or.inl ⟨by rfl, ?_⟩) (by assumption) ?_
                rotate_left
                focus ((intro w hSw; (try dsimp only at hSw); go_simp); (try with_reducible rfl))
                try simp only [Act.put, List.setIfInBounds_toArray, List.set_cons_zero, List.set_cons_succ]
                refine wpAnyH_take (i := 21) (oi := { dst := some 90, op := Op.load 22 (Operand.tmp 89), type := 22, pos := "law.go:117", after := #[{ on := 20, ground := Ground.data }, { on := 17, ground := Ground.guard }], guard := some (17, false) }) (v := ?_) rfl (by kernel_rfl) (by kernel_rfl) (by kernel_rfl) (fun _ _ _ h => h) (Or.inl ⟨by rfl, ?_⟩) (by assumption) ?_
                rotate_left
                focus ((intro w hSw; (try dsimp only at hSw); go_simp); (try with_reducible rfl))
                try simp only [Act.put, List.setIfInBounds_toArray, List.set_cons_zero, List.set_cons_succ]
                refine wpAnyH_take (i := 23) (oi := { dst := some 92, op := Op.move (Operand.tmp 5), type := 23, pos := "law.go:117", after := #[{ on := 17, ground := Ground.guard }], guard := some (17, false) }) (v := ?_) rfl (by kernel_rfl) (by kernel_rfl) (by kernel_rfl) (fun _ _ _ h => h) (Or.inl ⟨by rfl, ?_⟩) (by assumption) ?_
                rotate_left
                focus ((intro w hSw; (try dsimp only at hSw); go_simp); (try with_reducible rfl))
                try simp only [Act.put, List.setIfInBounds_toArray, List.set_cons_zero, List.set_cons_succ]
                refine wpAnyH_take (i := 24) (oi := { dst := some 93, op := Op.move (Operand.tmp 8), type := 3, pos := "law.go:117", after := #[{ on := 17, ground := Ground.guard }], guard := some (17, false) }) (v := ?_) rfl (by kernel_rfl) (by kernel_rfl) (by kernel_rfl) (fun _ _ _ h => h) (Or.inl ⟨by rfl, ?_⟩) (by assumption) ?_
                rotate_left
                focus ((intro w hSw; (try dsimp only at hSw); go_simp); (try with_reducible rfl))
                try simp only [Act.put, List.setIfInBounds_toArray, List.set_cons_zero, List.set_cons_succ]
                refine wpAnyH_take (i := 25) (oi := { dst := some 94, op := Op.indexAddr 23 (Operand.tmp 92) (Operand.tmp 93), type := 0, pos := "law.go:117", after := #[{ on := 23, ground := Ground.data }, { on := 24, ground := Ground.data }, { on := 17, ground := Ground.guard }], guard := some (17, false) }) (v := ?_) rfl (by kernel_rfl) (by kernel_rfl) (by kernel_rfl) (fun _ _ _ h => h) (Or.inl ⟨by rfl, ?_⟩) (by assumption) ?_
                rotate_left
                focus ((intro w hSw; (try dsimp only at hSw); go_simp); (try with_reducible rfl))
                try simp only [Act.put, List.setIfInBounds_toArray, List.set_cons_zero, List.set_cons_succ]
                refine wpAnyH_take (i := 26) (oi := { dst := some 95, op := Op.load 22 (Operand.tmp 94), type := 22, pos := "law.go:117", after := #[{ on := 25, ground := Ground.data }, { on := 17, ground := Ground.guard }], guard := some (17, false) }) (v := ?_) rfl (by kernel_rfl) (by kernel_rfl) (by kernel_rfl) (fun _ _ _ h => h) (Or.inl ⟨by rfl, ?_⟩) (by assumption) ?_
                rotate_left
                focus ((intro w hSw; (try dsimp only at hSw); go_simp); (try with_reducible rfl))
                try simp only [Act.put, List.setIfInBounds_toArray, List.set_cons_zero, List.set_cons_succ]
                refine wpAnyH_ready (rs := [22]) (by kernel_rfl) (by simp) ?_
                refine AllReadyH.cons (o := { dst := some 91, op := Op.call { callee := Callee.value (Operand.func 34), args := #[Operand.tmp 90], argTypes := #[22] }, type := 22, pos := "law.go:117", after := #[{ on := 21, ground := Ground.data }, { on := 17, ground := Ground.chain }, { on := 17, ground := Ground.guard }], guard := some (17, false) }) rfl (fun K hK => ?_) AllReadyH.nil
                clear hHeld
                go_simp
                refine (HS1.out _ (HG.out.below (below_drew HB.out))).mono ?_
                rintro _ WX1 ⟨rfl, hB1⟩
                have HB2 := Lib.hid (show Below w.heap.size w WX1 from (below_drew HB.out).trans (hB1.mono HB.out.size))
                have HC2 := Lib.hid (show Below w3.heap.size w3 WX1 from (below_drew HC.out).trans (hB1.mono HC.out.size))
                have cX3 := (HC2.out.cell (p := ⟨Q, i, none⟩) hlq).trans hqi
                have cX4 := (HC2.out.cell (p := ⟨Q, k, none⟩) hlq).trans hqk
                clear HB HC hB1
                have HB := HB2
                have HC := HC2
                clear HB2 HC2
                go_wp2_with fail
                refine hK.out _ _ (by (try dsimp only); go_keep) (fun hHeld => ?_)
                clear hK K
                try simp only [Act.put, List.setIfInBounds_toArray, List.set_cons_zero, List.set_cons_succ]
                refine wpAnyH_ready (rs := [27]) (by kernel_rfl) (by simp) ?_
                refine AllReadyH.cons (o := { dst := some 96, op := Op.call { callee := Callee.value (Operand.func 34), args := #[Operand.tmp 95], argTypes := #[22] }, type := 22, pos := "law.go:117", after := #[{ on := 26, ground := Ground.data }, { on := 22, ground := Ground.chain }, { on := 17, ground := Ground.guard }], guard := some (17, false) }) rfl (fun K hK => ?_) AllReadyH.nil
                clear hHeld
                go_simp
                refine (HS2.out _ (HG.out.below HB.out)).mono ?_
                rintro _ WX2 ⟨rfl, hB1⟩
                have HB2 := Lib.hid (show Below w.heap.size w WX2 from HB.out.trans (hB1.mono HB.out.size))
                have HC2 := Lib.hid (show Below w3.heap.size w3 WX2 from HC.out.trans (hB1.mono HC.out.size))
                have cX3 := (HC2.out.cell (p := ⟨Q, i, none⟩) hlq).trans hqi
                have cX4 := (HC2.out.cell (p := ⟨Q, k, none⟩) hlq).trans hqk
                clear HB HC hB1
                have HB := HB2
                have HC := HC2
                clear HB2 HC2
                go_wp2_with fail
                refine hK.out _ _ (by (try dsimp only); go_keep) (fun hHeld => ?_)
                clear hK K
                try simp only [Act.put, List.setIfInBounds_toArray, List.set_cons_zero, List.set_cons_succ]
                refine wpAnyH_ready (rs := [28]) (by kernel_rfl) (by simp) ?_
                refine AllReadyH.cons (o := { dst := some 97, op := Op.call { callee := Callee.value (Operand.func 35), args := #[Operand.tmp 91, Operand.tmp 96], argTypes := #[22, 22] }, type := 22, pos := "law.go:117", after := #[{ on := 22, ground := Ground.data }, { on := 27, ground := Ground.data }, { on := 27, ground := Ground.chain }, { on := 17, ground := Ground.guard }], guard := some (17, false) }) rfl (fun K hK => ?_) AllReadyH.nil
                clear hHeld
                go_simp
                refine (HSB.out _ (HG.out.below HB.out)).mono ?_
                rintro _ WX3 ⟨rfl, hB1⟩
                have HB2 := Lib.hid (show Below w.heap.size w WX3 from HB.out.trans (hB1.mono HB.out.size))
                have HC2 := Lib.hid (show Below w3.heap.size w3 WX3 from HC.out.trans (hB1.mono HC.out.size))
                have cX3 := (HC2.out.cell (p := ⟨Q, i, none⟩) hlq).trans hqi
                have cX4 := (HC2.out.cell (p := ⟨Q, k, none⟩) hlq).trans hqk
                clear HB HC hB1
                have HB := HB2
                have HC := HC2
                clear HB2 HC2
                go_wp2_with fail
                refine hK.out _ _ (by (try dsimp only); go_keep) (fun hHeld => ?_)
                clear hK K
                try simp only [Act.put, List.setIfInBounds_toArray, List.set_cons_zero, List.set_cons_succ]
                refine wpAnyH_ready (rs := [29]) (by kernel_rfl) (by simp) ?_
                refine AllReadyH.cons (o := { dst := some 98, op := Op.call { callee := Callee.value (Operand.func 33), args := #[Operand.tmp 97, Operand.const (Value.string { data := #[49] })], argTypes := #[22, 22] }, type := 3, pos := "law.go:117", after := #[{ on := 28, ground := Ground.data }, { on := 28, ground := Ground.chain }, { on := 17, ground := Ground.guard }], guard := some (17, false) }) rfl (fun K hK => ?_) AllReadyH.nil
                clear hHeld
                go_simp
                refine (HCM.out _ (HG.out.below HB.out)).mono ?_
                rintro _ WX4 ⟨rfl, hB1⟩
                have HB2 := Lib.hid (show Below w.heap.size w WX4 from HB.out.trans (hB1.mono HB.out.size))
                have HC2 := Lib.hid (show Below w3.heap.size w3 WX4 from HC.out.trans (hB1.mono HC.out.size))
                have cX3 := (HC2.out.cell (p := ⟨Q, i, none⟩) hlq).trans hqi
                have cX4 := (HC2.out.cell (p := ⟨Q, k, none⟩) hlq).trans hqk
                clear HB HC hB1
                have HB := HB2
                have HC := HC2
                clear HB2 HC2
                go_wp2_with fail
                refine hK.out _ _ (by (try dsimp only); go_keep) (fun hHeld => ?_)
                clear hK K
                try simp only [Act.put, List.setIfInBounds_toArray, List.set_cons_zero, List.set_cons_succ]
                refine wpAnyH_take (i := 30) (oi := { dst := some 99, op := Op.binOp BinOp.gtr 3 (Operand.tmp 98) (Operand.const (Value.int IntKind.i64 0)) 3, type := 4, pos := "law.go:117", after := #[{ on := 29, ground := Ground.data }, { on := 17, ground := Ground.guard }], guard := some (17, false) }) (v := ?_) rfl (by kernel_rfl) (by kernel_rfl) (by kernel_rfl) (fun _ _ _ h => h) (Or.inl ⟨by rfl, ?_⟩) (by assumption) ?_
                rotate_left
                focus ((intro w hSw; (try dsimp only at hSw); go_simp); (try with_reducible rfl))
                try simp only [Act.put, List.setIfInBounds_toArray, List.set_cons_zero, List.set_cons_succ]
                refine wpAnyH_take (i := 31) (oi := { dst := some 100, op := Op.pick (Operand.tmp 86) (Operand.const (Value.bool true)) (Operand.tmp 99), type := 4, pos := "law.go:117", after := #[{ on := 17, ground := Ground.data }, { on := 30, ground := Ground.data }, { on := 14, ground := Ground.guard }], guard := some (14, true) }) (v := ?_) rfl (by kernel_rfl) (by kernel_rfl) (by kernel_rfl) (fun _ _ _ h => h) (Or.inl ⟨by rfl, ?_⟩) (by assumption) ?_
                rotate_left
                focus ((intro w hSw; (try dsimp only at hSw); go_simp); (try with_reducible rfl))
                try simp only [Act.put, List.setIfInBounds_toArray, List.set_cons_zero, List.set_cons_succ]
                refine wpAnyH_take (i := 32) (oi := { dst := some 101, op := Op.pick (Operand.tmp 83) (Operand.tmp 100) (Operand.const (Value.bool false)), type := 4, pos := "law.go:117", after := #[{ on := 14, ground := Ground.data }, { on := 31, ground := Ground.data }, { on := 6, ground := Ground.guard }], guard := some (6, false) }) (v := ?_) rfl (by kernel_rfl) (by kernel_rfl) (by kernel_rfl) (fun _ _ _ h => h) (Or.inl ⟨by rfl, ?_⟩) (by assumption) ?_
                rotate_left
                focus ((intro w hSw; (try dsimp only at hSw); go_simp); (try with_reducible rfl))
                try simp only [Act.put, List.setIfInBounds_toArray, List.set_cons_zero, List.set_cons_succ]
                refine wpAnyH_take (i := 33) (oi := { dst := some 102, op := Op.pick (Operand.tmp 75) (Operand.const (Value.bool true)) (Operand.tmp 101), type := 4, pos := "law.go:117", after := #[{ on := 6, ground := Ground.data }, { on := 32, ground := Ground.data }], guard := none }) (v := ?_) rfl (by kernel_rfl) (by kernel_rfl) (by kernel_rfl) (fun _ _ _ h => h) (Or.inl ⟨by rfl, ?_⟩) (by assumption) ?_
                rotate_left
                focus ((intro w hSw; (try dsimp only at hSw); go_simp); (try with_reducible rfl))
                try simp only [Act.put, List.setIfInBounds_toArray, List.set_cons_zero, List.set_cons_succ]
                refine wpAnyH_done (by kernel_rfl) ?_ _
                clear hHeld
                go_wp2_with fail
                go_roundg (n - (k + 1) + 1)
                case measure => omega
                case rel => exact ⟨k + 1, by first | rfl | go_num, by omega, by omega, HB, HC⟩
            · have hikz : ¬ (i : Int) < (k : Int) := by omega
              clear hdr hcr
              go_wp2_with fail
              refine wp_region_held_drew (S := fun w' => w'.cell? ⟨Q, i, none⟩ = some (.string li) ∧ w'.cell? ⟨Q, k, none⟩ = some (.string lk)) (by kernel_rfl) (by (try dsimp only); go_keep) (fun hHeld => ?_)
              refine wpAnyH_take (i := 0) (oi := { dst := some 69, op := Op.move (Operand.tmp 9), type := 3, pos := "law.go:117", after := #[], guard := none }) (v := ?_) rfl (by kernel_rfl) (by kernel_rfl) (by kernel_rfl) (fun _ _ _ h => h) (Or.inl ⟨by rfl, ?_⟩) (by assumption) ?_
              rotate_left
              focus ((intro w hSw; (try dsimp only at hSw); go_simp); (try with_reducible rfl))
              try simp only [Act.put, List.setIfInBounds_toArray, List.set_cons_zero, List.set_cons_succ]
              refine wpAnyH_take (i := 1) (oi := { dst := some 70, op := Op.binOp BinOp.gtr 3 (Operand.tmp 69) (Operand.const (Value.int IntKind.i64 0)) 3, type := 4, pos := "law.go:117", after := #[{ on := 0, ground := Ground.data }], guard := none }) (v := ?_) rfl (by kernel_rfl) (by kernel_rfl) (by kernel_rfl) (fun _ _ _ h => h) (Or.inl ⟨by rfl, ?_⟩) (by assumption) ?_
              rotate_left
              focus ((intro w hSw; (try dsimp only at hSw); go_simp); (try with_reducible rfl))
              try simp only [Act.put, List.setIfInBounds_toArray, List.set_cons_zero, List.set_cons_succ]
              refine wpAnyH_take (i := 2) (oi := { dst := some 71, op := Op.move (Operand.tmp 70), type := 4, pos := "law.go:117", after := #[{ on := 1, ground := Ground.data }], guard := none }) (v := ?_) rfl (by kernel_rfl) (by kernel_rfl) (by kernel_rfl) (fun _ _ _ h => h) (Or.inl ⟨by rfl, ?_⟩) (by assumption) ?_
              rotate_left
              focus ((intro w hSw; (try dsimp only at hSw); go_simp); (try with_reducible rfl))
              try simp only [Act.put, List.setIfInBounds_toArray, List.set_cons_zero, List.set_cons_succ]
              refine wpAnyH_take (i := 3) (oi := { dst := some 72, op := Op.move (Operand.tmp 10), type := 3, pos := "law.go:117", after := #[{ on := 2, ground := Ground.guard }], guard := some (2, true) }) (v := undef) rfl (by kernel_rfl) (by kernel_rfl) (by kernel_rfl) (fun _ _ _ h => h) (Or.inr ⟨by rfl, rfl⟩) (by assumption) ?_
              try simp only [Act.put, List.setIfInBounds_toArray, List.set_cons_zero, List.set_cons_succ]
              refine wpAnyH_take (i := 4) (oi := { dst := some 73, op := Op.binOp BinOp.lss 3 (Operand.tmp 72) (Operand.const (Value.int IntKind.i64 0)) 3, type := 4, pos := "law.go:117", after := #[{ on := 3, ground := Ground.data }, { on := 2, ground := Ground.guard }], guard := some (2, true) }) (v := undef) rfl (by kernel_rfl) (by kernel_rfl) (by kernel_rfl) (fun _ _ _ h => h) (Or.inr ⟨by rfl, rfl⟩) (by assumption) ?_
              try simp only [Act.put, List.setIfInBounds_toArray, List.set_cons_zero, List.set_cons_succ]
              refine wpAnyH_take (i := 5) (oi := { dst := some 74, op := Op.pick (Operand.tmp 71) (Operand.tmp 73) (Operand.const (Value.bool false)), type := 4, pos := "law.go:117", after := #[{ on := 2, ground := Ground.data }, { on := 4, ground := Ground.data }], guard := none }) (v := ?_) rfl (by kernel_rfl) (by kernel_rfl) (by kernel_rfl) (fun _ _ _ h => h) (Or.inl ⟨by rfl, ?_⟩) (by assumption) ?_
              rotate_left
              focus ((intro w hSw; (try dsimp only at hSw); go_simp); (try with_reducible rfl))
              try simp only [Act.put, List.setIfInBounds_toArray, List.set_cons_zero, List.set_cons_succ]
              refine wpAnyH_take (i := 6) (oi := { dst := some 75, op := Op.move (Operand.tmp 74), type := 4, pos := "law.go:117", after := #[{ on := 5, ground := Ground.data }, { on := 2, ground := Ground.chain }], guard := none }) (v := ?_) rfl (by kernel_rfl) (by kernel_rfl) (by kernel_rfl) (fun _ _ _ h => h) (Or.inl ⟨by rfl, ?_⟩) (by assumption) ?_
              rotate_left
              focus ((intro w hSw; (try dsimp only at hSw); go_simp); (try with_reducible rfl))
              try simp only [Act.put, List.setIfInBounds_toArray, List.set_cons_zero, List.set_cons_succ]
              refine wpAnyH_take (i := 7) (oi := { dst := some 76, op := Op.move (Operand.tmp 9), type := 3, pos := "law.go:117", after := #[{ on := 6, ground := Ground.guard }], guard := some (6, false) }) (v := ?_) rfl (by kernel_rfl) (by kernel_rfl) (by kernel_rfl) (fun _ _ _ h => h) (Or.inl ⟨by rfl, ?_⟩) (by assumption) ?_
              rotate_left
              focus ((intro w hSw; (try dsimp only at hSw); go_simp); (try with_reducible rfl))
              try simp only [Act.put, List.setIfInBounds_toArray, List.set_cons_zero, List.set_cons_succ]
              refine wpAnyH_take (i := 8) (oi := { dst := some 77, op := Op.binOp BinOp.eql 3 (Operand.tmp 76) (Operand.const (Value.int IntKind.i64 0)) 3, type := 4, pos := "law.go:117", after := #[{ on := 7, ground := Ground.data }, { on := 6, ground := Ground.guard }], guard := some (6, false) }) (v := ?_) rfl (by kernel_rfl) (by kernel_rfl) (by kernel_rfl) (fun _ _ _ h => h) (Or.inl ⟨by rfl, ?_⟩) (by assumption) ?_
              rotate_left
              focus ((intro w hSw; (try dsimp only at hSw); go_simp); (try with_reducible rfl))
              try simp only [Act.put, List.setIfInBounds_toArray, List.set_cons_zero, List.set_cons_succ]
              refine wpAnyH_take (i := 9) (oi := { dst := some 78, op := Op.move (Operand.tmp 77), type := 4, pos := "law.go:117", after := #[{ on := 8, ground := Ground.data }, { on := 6, ground := Ground.chain }, { on := 6, ground := Ground.guard }], guard := some (6, false) }) (v := ?_) rfl (by kernel_rfl) (by kernel_rfl) (by kernel_rfl) (fun _ _ _ h => h) (Or.inl ⟨by rfl, ?_⟩) (by assumption) ?_
              rotate_left
              focus ((intro w hSw; (try dsimp only at hSw); go_simp); (try with_reducible rfl))
              try simp only [Act.put, List.setIfInBounds_toArray, List.set_cons_zero, List.set_cons_succ]
              refine wpAnyH_take (i := 10) (oi := { dst := some 79, op := Op.move (Operand.tmp 7), type := 3, pos := "law.go:117", after := #[{ on := 9, ground := Ground.guard }], guard := some (9, true) }) (v := ?_) rfl (by kernel_rfl) (by kernel_rfl) (by kernel_rfl) (fun _ _ _ h => h) (Or.inl ⟨by rfl, ?_⟩) (by assumption) ?_
              rotate_left
              focus ((intro w hSw; (try dsimp only at hSw); go_simp); (try with_reducible rfl))
              try simp only [Act.put, List.setIfInBounds_toArray, List.set_cons_zero, List.set_cons_succ]
              refine wpAnyH_take (i := 11) (oi := { dst := some 80, op := Op.move (Operand.tmp 8), type := 3, pos := "law.go:117", after := #[{ on := 9, ground := Ground.guard }], guard := some (9, true) }) (v := ?_) rfl (by kernel_rfl) (by kernel_rfl) (by kernel_rfl) (fun _ _ _ h => h) (Or.inl ⟨by rfl, ?_⟩) (by assumption) ?_
              rotate_left
              focus ((intro w hSw; (try dsimp only at hSw); go_simp); (try with_reducible rfl))
              try simp only [Act.put, List.setIfInBounds_toArray, List.set_cons_zero, List.set_cons_succ]
              refine wpAnyH_take (i := 12) (oi := { dst := some 81, op := Op.binOp BinOp.lss 3 (Operand.tmp 79) (Operand.tmp 80) 3, type := 4, pos := "law.go:117", after := #[{ on := 10, ground := Ground.data }, { on := 11, ground := Ground.data }, { on := 9, ground := Ground.guard }], guard := some (9, true) }) (v := ?_) rfl (by kernel_rfl) (by kernel_rfl) (by kernel_rfl) (fun _ _ _ h => h) (Or.inl ⟨by rfl, ?_⟩) (by assumption) ?_
              rotate_left
              focus ((intro w hSw; (try dsimp only at hSw); go_simp); (try with_reducible rfl))
              try simp only [Act.put, List.setIfInBounds_toArray, List.set_cons_zero, List.set_cons_succ]
              refine wpAnyH_take (i := 13) (oi := { dst := some 82, op := Op.pick (Operand.tmp 78) (Operand.tmp 81) (Operand.const (Value.bool false)), type := 4, pos := "law.go:117", after := #[{ on := 9, ground := Ground.data }, { on := 12, ground := Ground.data }, { on := 6, ground := Ground.guard }], guard := some (6, false) }) (v := ?_) rfl (by kernel_rfl) (by kernel_rfl) (by kernel_rfl) (fun _ _ _ h => h) (Or.inl ⟨by rfl, ?_⟩) (by assumption) ?_
              rotate_left
              focus ((intro w hSw; (try dsimp only at hSw); go_simp); (try with_reducible rfl))
              try simp only [Act.put, List.setIfInBounds_toArray, List.set_cons_zero, List.set_cons_succ]
              refine wpAnyH_take (i := 14) (oi := { dst := some 83, op := Op.move (Operand.tmp 82), type := 4, pos := "law.go:117", after := #[{ on := 13, ground := Ground.data }, { on := 9, ground := Ground.chain }, { on := 6, ground := Ground.guard }], guard := some (6, false) }) (v := ?_) rfl (by kernel_rfl) (by kernel_rfl) (by kernel_rfl) (fun _ _ _ h => h) (Or.inl ⟨by rfl, ?_⟩) (by assumption) ?_
              rotate_left
              focus ((intro w hSw; (try dsimp only at hSw); go_simp); (try with_reducible rfl))
              try simp only [Act.put, List.setIfInBounds_toArray, List.set_cons_zero, List.set_cons_succ]
              refine wpAnyH_take (i := 15) (oi := { dst := some 84, op := Op.move (Operand.tmp 10), type := 3, pos := "law.go:117", after := #[{ on := 14, ground := Ground.guard }], guard := some (14, true) }) (v := undef) rfl (by kernel_rfl) (by kernel_rfl) (by kernel_rfl) (fun _ _ _ h => h) (Or.inr ⟨by rfl, rfl⟩) (by assumption) ?_
              try simp only [Act.put, List.setIfInBounds_toArray, List.set_cons_zero, List.set_cons_succ]
              refine wpAnyH_take (i := 16) (oi := { dst := some 85, op := Op.binOp BinOp.lss 3 (Operand.tmp 84) (Operand.const (Value.int IntKind.i64 0)) 3, type := 4, pos := "law.go:117", after := #[{ on := 15, ground := Ground.data }, { on := 14, ground := Ground.guard }], guard := some (14, true) }) (v := undef) rfl (by kernel_rfl) (by kernel_rfl) (by kernel_rfl) (fun _ _ _ h => h) (Or.inr ⟨by rfl, rfl⟩) (by assumption) ?_
              try simp only [Act.put, List.setIfInBounds_toArray, List.set_cons_zero, List.set_cons_succ]
              refine wpAnyH_take (i := 17) (oi := { dst := some 86, op := Op.move (Operand.tmp 85), type := 4, pos := "law.go:117", after := #[{ on := 16, ground := Ground.data }, { on := 14, ground := Ground.chain }, { on := 14, ground := Ground.guard }], guard := some (14, true) }) (v := undef) rfl (by kernel_rfl) (by kernel_rfl) (by kernel_rfl) (fun _ _ _ h => h) (Or.inr ⟨by rfl, rfl⟩) (by assumption) ?_
              try simp only [Act.put, List.setIfInBounds_toArray, List.set_cons_zero, List.set_cons_succ]
              refine wpAnyH_take (i := 18) (oi := { dst := some 87, op := Op.move (Operand.tmp 5), type := 23, pos := "law.go:117", after := #[{ on := 17, ground := Ground.guard }], guard := some (17, false) }) (v := undef) rfl (by kernel_rfl) (by kernel_rfl) (by kernel_rfl) (fun _ _ _ h => h) (Or.inr ⟨by rfl, rfl⟩) (by assumption) ?_
              try simp only [Act.put, List.setIfInBounds_toArray, List.set_cons_zero, List.set_cons_succ]
              refine wpAnyH_take (i := 19) (oi := { dst := some 88, op := Op.move (Operand.tmp 7), type := 3, pos := "law.go:117", after := #[{ on := 17, ground := Ground.guard }], guard := some (17, false) }) (v := undef) rfl (by kernel_rfl) (by kernel_rfl) (by kernel_rfl) (fun _ _ _ h => h) (Or.inr ⟨by rfl, rfl⟩) (by assumption) ?_
              try simp only [Act.put, List.setIfInBounds_toArray, List.set_cons_zero, List.set_cons_succ]
              refine wpAnyH_take (i := 20) (oi := { dst := some 89, op := Op.indexAddr 23 (Operand.tmp 87) (Operand.tmp 88), type := 0, pos := "law.go:117", after := #[{ on := 18, ground := Ground.data }, { on := 19, ground := Ground.data }, { on := 17, ground := Ground.guard }], guard := some (17, false) }) (v := undef) rfl (by kernel_rfl) (by kernel_rfl) (by kernel_rfl) (fun _ _ _ h => h) (Or.inr ⟨by rfl, rfl⟩) (by assumption) ?_
              try simp only [Act.put, List.setIfInBounds_toArray, List.set_cons_zero, List.set_cons_succ]
              refine wpAnyH_take (i := 21) (oi := { dst := some 90, op := Op.load 22 (Operand.tmp 89), type := 22, pos := "law.go:117", after := #[{ on := 20, ground := Ground.data }, { on := 17, ground := Ground.guard }], guard := some (17, false) }) (v := undef) rfl (by kernel_rfl) (by kernel_rfl) (by kernel_rfl) (fun _ _ _ h => h) (Or.inr ⟨by rfl, rfl⟩) (by assumption) ?_
              try simp only [Act.put, List.setIfInBounds_toArray, List.set_cons_zero, List.set_cons_succ]
              refine wpAnyH_take (i := 22) (oi := { dst := some 91, op := Op.call { callee := Callee.value (Operand.func 34), args := #[Operand.tmp 90], argTypes := #[22] }, type := 22, pos := "law.go:117", after := #[{ on := 21, ground := Ground.data }, { on := 17, ground := Ground.chain }, { on := 17, ground := Ground.guard }], guard := some (17, false) }) (v := undef) rfl (by kernel_rfl) (by kernel_rfl) (by kernel_rfl) (fun _ _ _ h => h) (Or.inr ⟨by rfl, rfl⟩) (by assumption) ?_
              try simp only [Act.put, List.setIfInBounds_toArray, List.set_cons_zero, List.set_cons_succ]
              refine wpAnyH_take (i := 23) (oi := { dst := some 92, op := Op.move (Operand.tmp 5), type := 23, pos := "law.go:117", after := #[{ on := 17, ground := Ground.guard }], guard := some (17, false) }) (v := undef) rfl (by kernel_rfl) (by kernel_rfl) (by kernel_rfl) (fun _ _ _ h => h) (Or.inr ⟨by rfl, rfl⟩) (by assumption) ?_
              try simp only [Act.put, List.setIfInBounds_toArray, List.set_cons_zero, List.set_cons_succ]
              refine wpAnyH_take (i := 24) (oi := { dst := some 93, op := Op.move (Operand.tmp 8), type := 3, pos := "law.go:117", after := #[{ on := 17, ground := Ground.guard }], guard := some (17, false) }) (v := undef) rfl (by kernel_rfl) (by kernel_rfl) (by kernel_rfl) (fun _ _ _ h => h) (Or.inr ⟨by rfl, rfl⟩) (by assumption) ?_
              try simp only [Act.put, List.setIfInBounds_toArray, List.set_cons_zero, List.set_cons_succ]
              refine wpAnyH_take (i := 25) (oi := { dst := some 94, op := Op.indexAddr 23 (Operand.tmp 92) (Operand.tmp 93), type := 0, pos := "law.go:117", after := #[{ on := 23, ground := Ground.data }, { on := 24, ground := Ground.data }, { on := 17, ground := Ground.guard }], guard := some (17, false) }) (v := undef) rfl (by kernel_rfl) (by kernel_rfl) (by kernel_rfl) (fun _ _ _ h => h) (Or.inr ⟨by rfl, rfl⟩) (by assumption) ?_
              try simp only [Act.put, List.setIfInBounds_toArray, List.set_cons_zero, List.set_cons_succ]
              refine wpAnyH_take (i := 26) (oi := { dst := some 95, op := Op.load 22 (Operand.tmp 94), type := 22, pos := "law.go:117", after := #[{ on := 25, ground := Ground.data }, { on := 17, ground := Ground.guard }], guard := some (17, false) }) (v := undef) rfl (by kernel_rfl) (by kernel_rfl) (by kernel_rfl) (fun _ _ _ h => h) (Or.inr ⟨by rfl, rfl⟩) (by assumption) ?_
              try simp only [Act.put, List.setIfInBounds_toArray, List.set_cons_zero, List.set_cons_succ]
              refine wpAnyH_take (i := 27) (oi := { dst := some 96, op := Op.call { callee := Callee.value (Operand.func 34), args := #[Operand.tmp 95], argTypes := #[22] }, type := 22, pos := "law.go:117", after := #[{ on := 26, ground := Ground.data }, { on := 22, ground := Ground.chain }, { on := 17, ground := Ground.guard }], guard := some (17, false) }) (v := undef) rfl (by kernel_rfl) (by kernel_rfl) (by kernel_rfl) (fun _ _ _ h => h) (Or.inr ⟨by rfl, rfl⟩) (by assumption) ?_
              try simp only [Act.put, List.setIfInBounds_toArray, List.set_cons_zero, List.set_cons_succ]
              refine wpAnyH_take (i := 28) (oi := { dst := some 97, op := Op.call { callee := Callee.value (Operand.func 35), args := #[Operand.tmp 91, Operand.tmp 96], argTypes := #[22, 22] }, type := 22, pos := "law.go:117", after := #[{ on := 22, ground := Ground.data }, { on := 27, ground := Ground.data }, { on := 27, ground := Ground.chain }, { on := 17, ground := Ground.guard }], guard := some (17, false) }) (v := undef) rfl (by kernel_rfl) (by kernel_rfl) (by kernel_rfl) (fun _ _ _ h => h) (Or.inr ⟨by rfl, rfl⟩) (by assumption) ?_
              try simp only [Act.put, List.setIfInBounds_toArray, List.set_cons_zero, List.set_cons_succ]
              refine wpAnyH_take (i := 29) (oi := { dst := some 98, op := Op.call { callee := Callee.value (Operand.func 33), args := #[Operand.tmp 97, Operand.const (Value.string { data := #[49] })], argTypes := #[22, 22] }, type := 3, pos := "law.go:117", after := #[{ on := 28, ground := Ground.data }, { on := 28, ground := Ground.chain }, { on := 17, ground := Ground.guard }], guard := some (17, false) }) (v := undef) rfl (by kernel_rfl) (by kernel_rfl) (by kernel_rfl) (fun _ _ _ h => h) (Or.inr ⟨by rfl, rfl⟩) (by assumption) ?_
              try simp only [Act.put, List.setIfInBounds_toArray, List.set_cons_zero, List.set_cons_succ]
              refine wpAnyH_take (i := 30) (oi := { dst := some 99, op := Op.binOp BinOp.gtr 3 (Operand.tmp 98) (Operand.const (Value.int IntKind.i64 0)) 3, type := 4, pos := "law.go:117", after := #[{ on := 29, ground := Ground.data }, { on := 17, ground := Ground.guard }], guard := some (17, false) }) (v := undef) rfl (by kernel_rfl) (by kernel_rfl) (by kernel_rfl) (fun _ _ _ h => h) (Or.inr ⟨by rfl, rfl⟩) (by assumption) ?_
              try simp only [Act.put, List.setIfInBounds_toArray, List.set_cons_zero, List.set_cons_succ]
              refine wpAnyH_take (i := 31) (oi := { dst := some 100, op := Op.pick (Operand.tmp 86) (Operand.const (Value.bool true)) (Operand.tmp 99), type := 4, pos := "law.go:117", after := #[{ on := 17, ground := Ground.data }, { on := 30, ground := Ground.data }, { on := 14, ground := Ground.guard }], guard := some (14, true) }) (v := undef) rfl (by kernel_rfl) (by kernel_rfl) (by kernel_rfl) (fun _ _ _ h => h) (Or.inr ⟨by rfl, rfl⟩) (by assumption) ?_
              try simp only [Act.put, List.setIfInBounds_toArray, List.set_cons_zero, List.set_cons_succ]
              refine wpAnyH_take (i := 32) (oi := { dst := some 101, op := Op.pick (Operand.tmp 83) (Operand.tmp 100) (Operand.const (Value.bool false)), type := 4, pos := "law.go:117", after := #[{ on := 14, ground := Ground.data }, { on := 31, ground := Ground.data }, { on := 6, ground := Ground.guard }], guard := some (6, false) }) (v := ?_) rfl (by kernel_rfl) (by kernel_rfl) (by kernel_rfl) (fun _ _ _ h => h) (Or.inl ⟨by rfl, ?_⟩) (by assumption) ?_
              rotate_left
              focus ((intro w hSw; (try dsimp only at hSw); go_simp); (try with_reducible rfl))
              try simp only [Act.put, List.setIfInBounds_toArray, List.set_cons_zero, List.set_cons_succ]
              refine wpAnyH_take (i := 33) (oi := { dst := some 102, op := Op.pick (Operand.tmp 75) (Operand.const (Value.bool true)) (Operand.tmp 101), type := 4, pos := "law.go:117", after := #[{ on := 6, ground := Ground.data }, { on := 32, ground := Ground.data }], guard := none }) (v := ?_) rfl (by kernel_rfl) (by kernel_rfl) (by kernel_rfl) (fun _ _ _ h => h) (Or.inl ⟨by rfl, ?_⟩) (by assumption) ?_
              rotate_left
              focus ((intro w hSw; (try dsimp only at hSw); go_simp); (try with_reducible rfl))
              try simp only [Act.put, List.setIfInBounds_toArray, List.set_cons_zero, List.set_cons_succ]
              refine wpAnyH_done (by kernel_rfl) ?_ _
              clear hHeld
              have HB3 := Lib.hid (below_drew HB.out)
              have HC3 := Lib.hid (below_drew HC.out)
              clear HB HC
              go_wp2_with fail
              go_roundg (n - (k + 1) + 1)
              case measure => omega
              case rel => exact ⟨k + 1, by first | rfl | go_num, by omega, by omega, HB3, HC3⟩
          · clear hdr hcr
            go_wp2_with fail
            refine wp_region_held_drew (S := fun w' => w'.cell? ⟨Q, i, none⟩ = some (.string li) ∧ w'.cell? ⟨Q, k, none⟩ = some (.string lk)) (by kernel_rfl) (by (try dsimp only); go_keep) (fun hHeld => ?_)
            refine wpAnyH_take (i := 0) (oi := { dst := some 69, op := Op.move (Operand.tmp 9), type := 3, pos := "law.go:117", after := #[], guard := none }) (v := ?_) rfl (by kernel_rfl) (by kernel_rfl) (by kernel_rfl) (fun _ _ _ h => h) (Or.inl ⟨by rfl, ?_⟩) (by assumption) ?_
            rotate_left
            focus ((intro w hSw; (try dsimp only at hSw); go_simp); (try with_reducible rfl))
            try simp only [Act.put, List.setIfInBounds_toArray, List.set_cons_zero, List.set_cons_succ]
            refine wpAnyH_take (i := 1) (oi := { dst := some 70, op := Op.binOp BinOp.gtr 3 (Operand.tmp 69) (Operand.const (Value.int IntKind.i64 0)) 3, type := 4, pos := "law.go:117", after := #[{ on := 0, ground := Ground.data }], guard := none }) (v := ?_) rfl (by kernel_rfl) (by kernel_rfl) (by kernel_rfl) (fun _ _ _ h => h) (Or.inl ⟨by rfl, ?_⟩) (by assumption) ?_
            rotate_left
            focus ((intro w hSw; (try dsimp only at hSw); go_simp); (try with_reducible rfl))
            try simp only [Act.put, List.setIfInBounds_toArray, List.set_cons_zero, List.set_cons_succ]
            refine wpAnyH_take (i := 2) (oi := { dst := some 71, op := Op.move (Operand.tmp 70), type := 4, pos := "law.go:117", after := #[{ on := 1, ground := Ground.data }], guard := none }) (v := ?_) rfl (by kernel_rfl) (by kernel_rfl) (by kernel_rfl) (fun _ _ _ h => h) (Or.inl ⟨by rfl, ?_⟩) (by assumption) ?_
            rotate_left
            focus ((intro w hSw; (try dsimp only at hSw); go_simp); (try with_reducible rfl))
            try simp only [Act.put, List.setIfInBounds_toArray, List.set_cons_zero, List.set_cons_succ]
            refine wpAnyH_take (i := 3) (oi := { dst := some 72, op := Op.move (Operand.tmp 10), type := 3, pos := "law.go:117", after := #[{ on := 2, ground := Ground.guard }], guard := some (2, true) }) (v := undef) rfl (by kernel_rfl) (by kernel_rfl) (by kernel_rfl) (fun _ _ _ h => h) (Or.inr ⟨by rfl, rfl⟩) (by assumption) ?_
            try simp only [Act.put, List.setIfInBounds_toArray, List.set_cons_zero, List.set_cons_succ]
            refine wpAnyH_take (i := 4) (oi := { dst := some 73, op := Op.binOp BinOp.lss 3 (Operand.tmp 72) (Operand.const (Value.int IntKind.i64 0)) 3, type := 4, pos := "law.go:117", after := #[{ on := 3, ground := Ground.data }, { on := 2, ground := Ground.guard }], guard := some (2, true) }) (v := undef) rfl (by kernel_rfl) (by kernel_rfl) (by kernel_rfl) (fun _ _ _ h => h) (Or.inr ⟨by rfl, rfl⟩) (by assumption) ?_
            try simp only [Act.put, List.setIfInBounds_toArray, List.set_cons_zero, List.set_cons_succ]
            refine wpAnyH_take (i := 5) (oi := { dst := some 74, op := Op.pick (Operand.tmp 71) (Operand.tmp 73) (Operand.const (Value.bool false)), type := 4, pos := "law.go:117", after := #[{ on := 2, ground := Ground.data }, { on := 4, ground := Ground.data }], guard := none }) (v := ?_) rfl (by kernel_rfl) (by kernel_rfl) (by kernel_rfl) (fun _ _ _ h => h) (Or.inl ⟨by rfl, ?_⟩) (by assumption) ?_
            rotate_left
            focus ((intro w hSw; (try dsimp only at hSw); go_simp); (try with_reducible rfl))
            try simp only [Act.put, List.setIfInBounds_toArray, List.set_cons_zero, List.set_cons_succ]
            refine wpAnyH_take (i := 6) (oi := { dst := some 75, op := Op.move (Operand.tmp 74), type := 4, pos := "law.go:117", after := #[{ on := 5, ground := Ground.data }, { on := 2, ground := Ground.chain }], guard := none }) (v := ?_) rfl (by kernel_rfl) (by kernel_rfl) (by kernel_rfl) (fun _ _ _ h => h) (Or.inl ⟨by rfl, ?_⟩) (by assumption) ?_
            rotate_left
            focus ((intro w hSw; (try dsimp only at hSw); go_simp); (try with_reducible rfl))
            try simp only [Act.put, List.setIfInBounds_toArray, List.set_cons_zero, List.set_cons_succ]
            refine wpAnyH_take (i := 7) (oi := { dst := some 76, op := Op.move (Operand.tmp 9), type := 3, pos := "law.go:117", after := #[{ on := 6, ground := Ground.guard }], guard := some (6, false) }) (v := ?_) rfl (by kernel_rfl) (by kernel_rfl) (by kernel_rfl) (fun _ _ _ h => h) (Or.inl ⟨by rfl, ?_⟩) (by assumption) ?_
            rotate_left
            focus ((intro w hSw; (try dsimp only at hSw); go_simp); (try with_reducible rfl))
            try simp only [Act.put, List.setIfInBounds_toArray, List.set_cons_zero, List.set_cons_succ]
            refine wpAnyH_take (i := 8) (oi := { dst := some 77, op := Op.binOp BinOp.eql 3 (Operand.tmp 76) (Operand.const (Value.int IntKind.i64 0)) 3, type := 4, pos := "law.go:117", after := #[{ on := 7, ground := Ground.data }, { on := 6, ground := Ground.guard }], guard := some (6, false) }) (v := ?_) rfl (by kernel_rfl) (by kernel_rfl) (by kernel_rfl) (fun _ _ _ h => h) (Or.inl ⟨by rfl, ?_⟩) (by assumption) ?_
            rotate_left
            focus ((intro w hSw; (try dsimp only at hSw); go_simp); (try with_reducible rfl))
            try simp only [Act.put, List.setIfInBounds_toArray, List.set_cons_zero, List.set_cons_succ]
            refine wpAnyH_take (i := 9) (oi := { dst := some 78, op := Op.move (Operand.tmp 77), type := 4, pos := "law.go:117", after := #[{ on := 8, ground := Ground.data }, { on := 6, ground := Ground.chain }, { on := 6, ground := Ground.guard }], guard := some (6, false) }) (v := ?_) rfl (by kernel_rfl) (by kernel_rfl) (by kernel_rfl) (fun _ _ _ h => h) (Or.inl ⟨by rfl, ?_⟩) (by assumption) ?_
            rotate_left
            focus ((intro w hSw; (try dsimp only at hSw); go_simp); (try with_reducible rfl))
            try simp only [Act.put, List.setIfInBounds_toArray, List.set_cons_zero, List.set_cons_succ]
            refine wpAnyH_take (i := 10) (oi := { dst := some 79, op := Op.move (Operand.tmp 7), type := 3, pos := "law.go:117", after := #[{ on := 9, ground := Ground.guard }], guard := some (9, true) }) (v := undef) rfl (by kernel_rfl) (by kernel_rfl) (by kernel_rfl) (fun _ _ _ h => h) (Or.inr ⟨by rfl, rfl⟩) (by assumption) ?_
            try simp only [Act.put, List.setIfInBounds_toArray, List.set_cons_zero, List.set_cons_succ]
            refine wpAnyH_take (i := 11) (oi := { dst := some 80, op := Op.move (Operand.tmp 8), type := 3, pos := "law.go:117", after := #[{ on := 9, ground := Ground.guard }], guard := some (9, true) }) (v := undef) rfl (by kernel_rfl) (by kernel_rfl) (by kernel_rfl) (fun _ _ _ h => h) (Or.inr ⟨by rfl, rfl⟩) (by assumption) ?_
            try simp only [Act.put, List.setIfInBounds_toArray, List.set_cons_zero, List.set_cons_succ]
            refine wpAnyH_take (i := 12) (oi := { dst := some 81, op := Op.binOp BinOp.lss 3 (Operand.tmp 79) (Operand.tmp 80) 3, type := 4, pos := "law.go:117", after := #[{ on := 10, ground := Ground.data }, { on := 11, ground := Ground.data }, { on := 9, ground := Ground.guard }], guard := some (9, true) }) (v := undef) rfl (by kernel_rfl) (by kernel_rfl) (by kernel_rfl) (fun _ _ _ h => h) (Or.inr ⟨by rfl, rfl⟩) (by assumption) ?_
            try simp only [Act.put, List.setIfInBounds_toArray, List.set_cons_zero, List.set_cons_succ]
            refine wpAnyH_take (i := 13) (oi := { dst := some 82, op := Op.pick (Operand.tmp 78) (Operand.tmp 81) (Operand.const (Value.bool false)), type := 4, pos := "law.go:117", after := #[{ on := 9, ground := Ground.data }, { on := 12, ground := Ground.data }, { on := 6, ground := Ground.guard }], guard := some (6, false) }) (v := ?_) rfl (by kernel_rfl) (by kernel_rfl) (by kernel_rfl) (fun _ _ _ h => h) (Or.inl ⟨by rfl, ?_⟩) (by assumption) ?_
            rotate_left
            focus ((intro w hSw; (try dsimp only at hSw); go_simp); (try with_reducible rfl))
            try simp only [Act.put, List.setIfInBounds_toArray, List.set_cons_zero, List.set_cons_succ]
            refine wpAnyH_take (i := 14) (oi := { dst := some 83, op := Op.move (Operand.tmp 82), type := 4, pos := "law.go:117", after := #[{ on := 13, ground := Ground.data }, { on := 9, ground := Ground.chain }, { on := 6, ground := Ground.guard }], guard := some (6, false) }) (v := ?_) rfl (by kernel_rfl) (by kernel_rfl) (by kernel_rfl) (fun _ _ _ h => h) (Or.inl ⟨by rfl, ?_⟩) (by assumption) ?_
            rotate_left
            focus ((intro w hSw; (try dsimp only at hSw); go_simp); (try with_reducible rfl))
            try simp only [Act.put, List.setIfInBounds_toArray, List.set_cons_zero, List.set_cons_succ]
            refine wpAnyH_take (i := 15) (oi := { dst := some 84, op := Op.move (Operand.tmp 10), type := 3, pos := "law.go:117", after := #[{ on := 14, ground := Ground.guard }], guard := some (14, true) }) (v := undef) rfl (by kernel_rfl) (by kernel_rfl) (by kernel_rfl) (fun _ _ _ h => h) (Or.inr ⟨by rfl, rfl⟩) (by assumption) ?_
            try simp only [Act.put, List.setIfInBounds_toArray, List.set_cons_zero, List.set_cons_succ]
            refine wpAnyH_take (i := 16) (oi := { dst := some 85, op := Op.binOp BinOp.lss 3 (Operand.tmp 84) (Operand.const (Value.int IntKind.i64 0)) 3, type := 4, pos := "law.go:117", after := #[{ on := 15, ground := Ground.data }, { on := 14, ground := Ground.guard }], guard := some (14, true) }) (v := undef) rfl (by kernel_rfl) (by kernel_rfl) (by kernel_rfl) (fun _ _ _ h => h) (Or.inr ⟨by rfl, rfl⟩) (by assumption) ?_
            try simp only [Act.put, List.setIfInBounds_toArray, List.set_cons_zero, List.set_cons_succ]
            refine wpAnyH_take (i := 17) (oi := { dst := some 86, op := Op.move (Operand.tmp 85), type := 4, pos := "law.go:117", after := #[{ on := 16, ground := Ground.data }, { on := 14, ground := Ground.chain }, { on := 14, ground := Ground.guard }], guard := some (14, true) }) (v := undef) rfl (by kernel_rfl) (by kernel_rfl) (by kernel_rfl) (fun _ _ _ h => h) (Or.inr ⟨by rfl, rfl⟩) (by assumption) ?_
            try simp only [Act.put, List.setIfInBounds_toArray, List.set_cons_zero, List.set_cons_succ]
            refine wpAnyH_take (i := 18) (oi := { dst := some 87, op := Op.move (Operand.tmp 5), type := 23, pos := "law.go:117", after := #[{ on := 17, ground := Ground.guard }], guard := some (17, false) }) (v := undef) rfl (by kernel_rfl) (by kernel_rfl) (by kernel_rfl) (fun _ _ _ h => h) (Or.inr ⟨by rfl, rfl⟩) (by assumption) ?_
            try simp only [Act.put, List.setIfInBounds_toArray, List.set_cons_zero, List.set_cons_succ]
            refine wpAnyH_take (i := 19) (oi := { dst := some 88, op := Op.move (Operand.tmp 7), type := 3, pos := "law.go:117", after := #[{ on := 17, ground := Ground.guard }], guard := some (17, false) }) (v := undef) rfl (by kernel_rfl) (by kernel_rfl) (by kernel_rfl) (fun _ _ _ h => h) (Or.inr ⟨by rfl, rfl⟩) (by assumption) ?_
            try simp only [Act.put, List.setIfInBounds_toArray, List.set_cons_zero, List.set_cons_succ]
            refine wpAnyH_take (i := 20) (oi := { dst := some 89, op := Op.indexAddr 23 (Operand.tmp 87) (Operand.tmp 88), type := 0, pos := "law.go:117", after := #[{ on := 18, ground := Ground.data }, { on := 19, ground := Ground.data }, { on := 17, ground := Ground.guard }], guard := some (17, false) }) (v := undef) rfl (by kernel_rfl) (by kernel_rfl) (by kernel_rfl) (fun _ _ _ h => h) (Or.inr ⟨by rfl, rfl⟩) (by assumption) ?_
            try simp only [Act.put, List.setIfInBounds_toArray, List.set_cons_zero, List.set_cons_succ]
            refine wpAnyH_take (i := 21) (oi := { dst := some 90, op := Op.load 22 (Operand.tmp 89), type := 22, pos := "law.go:117", after := #[{ on := 20, ground := Ground.data }, { on := 17, ground := Ground.guard }], guard := some (17, false) }) (v := undef) rfl (by kernel_rfl) (by kernel_rfl) (by kernel_rfl) (fun _ _ _ h => h) (Or.inr ⟨by rfl, rfl⟩) (by assumption) ?_
            try simp only [Act.put, List.setIfInBounds_toArray, List.set_cons_zero, List.set_cons_succ]
            refine wpAnyH_take (i := 22) (oi := { dst := some 91, op := Op.call { callee := Callee.value (Operand.func 34), args := #[Operand.tmp 90], argTypes := #[22] }, type := 22, pos := "law.go:117", after := #[{ on := 21, ground := Ground.data }, { on := 17, ground := Ground.chain }, { on := 17, ground := Ground.guard }], guard := some (17, false) }) (v := undef) rfl (by kernel_rfl) (by kernel_rfl) (by kernel_rfl) (fun _ _ _ h => h) (Or.inr ⟨by rfl, rfl⟩) (by assumption) ?_
            try simp only [Act.put, List.setIfInBounds_toArray, List.set_cons_zero, List.set_cons_succ]
            refine wpAnyH_take (i := 23) (oi := { dst := some 92, op := Op.move (Operand.tmp 5), type := 23, pos := "law.go:117", after := #[{ on := 17, ground := Ground.guard }], guard := some (17, false) }) (v := undef) rfl (by kernel_rfl) (by kernel_rfl) (by kernel_rfl) (fun _ _ _ h => h) (Or.inr ⟨by rfl, rfl⟩) (by assumption) ?_
            try simp only [Act.put, List.setIfInBounds_toArray, List.set_cons_zero, List.set_cons_succ]
            refine wpAnyH_take (i := 24) (oi := { dst := some 93, op := Op.move (Operand.tmp 8), type := 3, pos := "law.go:117", after := #[{ on := 17, ground := Ground.guard }], guard := some (17, false) }) (v := undef) rfl (by kernel_rfl) (by kernel_rfl) (by kernel_rfl) (fun _ _ _ h => h) (Or.inr ⟨by rfl, rfl⟩) (by assumption) ?_
            try simp only [Act.put, List.setIfInBounds_toArray, List.set_cons_zero, List.set_cons_succ]
            refine wpAnyH_take (i := 25) (oi := { dst := some 94, op := Op.indexAddr 23 (Operand.tmp 92) (Operand.tmp 93), type := 0, pos := "law.go:117", after := #[{ on := 23, ground := Ground.data }, { on := 24, ground := Ground.data }, { on := 17, ground := Ground.guard }], guard := some (17, false) }) (v := undef) rfl (by kernel_rfl) (by kernel_rfl) (by kernel_rfl) (fun _ _ _ h => h) (Or.inr ⟨by rfl, rfl⟩) (by assumption) ?_
            try simp only [Act.put, List.setIfInBounds_toArray, List.set_cons_zero, List.set_cons_succ]
            refine wpAnyH_take (i := 26) (oi := { dst := some 95, op := Op.load 22 (Operand.tmp 94), type := 22, pos := "law.go:117", after := #[{ on := 25, ground := Ground.data }, { on := 17, ground := Ground.guard }], guard := some (17, false) }) (v := undef) rfl (by kernel_rfl) (by kernel_rfl) (by kernel_rfl) (fun _ _ _ h => h) (Or.inr ⟨by rfl, rfl⟩) (by assumption) ?_
            try simp only [Act.put, List.setIfInBounds_toArray, List.set_cons_zero, List.set_cons_succ]
            refine wpAnyH_take (i := 27) (oi := { dst := some 96, op := Op.call { callee := Callee.value (Operand.func 34), args := #[Operand.tmp 95], argTypes := #[22] }, type := 22, pos := "law.go:117", after := #[{ on := 26, ground := Ground.data }, { on := 22, ground := Ground.chain }, { on := 17, ground := Ground.guard }], guard := some (17, false) }) (v := undef) rfl (by kernel_rfl) (by kernel_rfl) (by kernel_rfl) (fun _ _ _ h => h) (Or.inr ⟨by rfl, rfl⟩) (by assumption) ?_
            try simp only [Act.put, List.setIfInBounds_toArray, List.set_cons_zero, List.set_cons_succ]
            refine wpAnyH_take (i := 28) (oi := { dst := some 97, op := Op.call { callee := Callee.value (Operand.func 35), args := #[Operand.tmp 91, Operand.tmp 96], argTypes := #[22, 22] }, type := 22, pos := "law.go:117", after := #[{ on := 22, ground := Ground.data }, { on := 27, ground := Ground.data }, { on := 27, ground := Ground.chain }, { on := 17, ground := Ground.guard }], guard := some (17, false) }) (v := undef) rfl (by kernel_rfl) (by kernel_rfl) (by kernel_rfl) (fun _ _ _ h => h) (Or.inr ⟨by rfl, rfl⟩) (by assumption) ?_
            try simp only [Act.put, List.setIfInBounds_toArray, List.set_cons_zero, List.set_cons_succ]
            refine wpAnyH_take (i := 29) (oi := { dst := some 98, op := Op.call { callee := Callee.value (Operand.func 33), args := #[Operand.tmp 97, Operand.const (Value.string { data := #[49] })], argTypes := #[22, 22] }, type := 3, pos := "law.go:117", after := #[{ on := 28, ground := Ground.data }, { on := 28, ground := Ground.chain }, { on := 17, ground := Ground.guard }], guard := some (17, false) }) (v := undef) rfl (by kernel_rfl) (by kernel_rfl) (by kernel_rfl) (fun _ _ _ h => h) (Or.inr ⟨by rfl, rfl⟩) (by assumption) ?_
            try simp only [Act.put, List.setIfInBounds_toArray, List.set_cons_zero, List.set_cons_succ]
            refine wpAnyH_take (i := 30) (oi := { dst := some 99, op := Op.binOp BinOp.gtr 3 (Operand.tmp 98) (Operand.const (Value.int IntKind.i64 0)) 3, type := 4, pos := "law.go:117", after := #[{ on := 29, ground := Ground.data }, { on := 17, ground := Ground.guard }], guard := some (17, false) }) (v := undef) rfl (by kernel_rfl) (by kernel_rfl) (by kernel_rfl) (fun _ _ _ h => h) (Or.inr ⟨by rfl, rfl⟩) (by assumption) ?_
            try simp only [Act.put, List.setIfInBounds_toArray, List.set_cons_zero, List.set_cons_succ]
            refine wpAnyH_take (i := 31) (oi := { dst := some 100, op := Op.pick (Operand.tmp 86) (Operand.const (Value.bool true)) (Operand.tmp 99), type := 4, pos := "law.go:117", after := #[{ on := 17, ground := Ground.data }, { on := 30, ground := Ground.data }, { on := 14, ground := Ground.guard }], guard := some (14, true) }) (v := undef) rfl (by kernel_rfl) (by kernel_rfl) (by kernel_rfl) (fun _ _ _ h => h) (Or.inr ⟨by rfl, rfl⟩) (by assumption) ?_
            try simp only [Act.put, List.setIfInBounds_toArray, List.set_cons_zero, List.set_cons_succ]
            refine wpAnyH_take (i := 32) (oi := { dst := some 101, op := Op.pick (Operand.tmp 83) (Operand.tmp 100) (Operand.const (Value.bool false)), type := 4, pos := "law.go:117", after := #[{ on := 14, ground := Ground.data }, { on := 31, ground := Ground.data }, { on := 6, ground := Ground.guard }], guard := some (6, false) }) (v := ?_) rfl (by kernel_rfl) (by kernel_rfl) (by kernel_rfl) (fun _ _ _ h => h) (Or.inl ⟨by rfl, ?_⟩) (by assumption) ?_
            rotate_left
            focus ((intro w hSw; (try dsimp only at hSw); go_simp); (try with_reducible rfl))
            try simp only [Act.put, List.setIfInBounds_toArray, List.set_cons_zero, List.set_cons_succ]
            refine wpAnyH_take (i := 33) (oi := { dst := some 102, op := Op.pick (Operand.tmp 75) (Operand.const (Value.bool true)) (Operand.tmp 101), type := 4, pos := "law.go:117", after := #[{ on := 6, ground := Ground.data }, { on := 32, ground := Ground.data }], guard := none }) (v := ?_) rfl (by kernel_rfl) (by kernel_rfl) (by kernel_rfl) (fun _ _ _ h => h) (Or.inl ⟨by rfl, ?_⟩) (by assumption) ?_
            rotate_left
            focus ((intro w hSw; (try dsimp only at hSw); go_simp); (try with_reducible rfl))
            try simp only [Act.put, List.setIfInBounds_toArray, List.set_cons_zero, List.set_cons_succ]
            refine wpAnyH_done (by kernel_rfl) ?_ _
            clear hHeld
            have HB3 := Lib.hid (below_drew HB.out)
            have HC3 := Lib.hid (below_drew HC.out)
            clear HB HC
            go_wp2_with fail
            go_roundg (n - (k + 1) + 1)
            case measure => omega
            case rel => exact ⟨k + 1, by first | rfl | go_num, by omega, by omega, HB3, HC3⟩
        · obtain rfl : k = n := by omega
          go_wp2_with fail
          go_roundg (k - (i + 1) + 1)
          case measure => omega
          case rel => exact ⟨i + 1, by first | rfl | go_num, by omega, by omega, HB, HC⟩

    · obtain rfl : i = n := by omega
      have hb := HB.out
      go_wp2_with fail
      refine (HAW.out _ (HG.out.below hb)).mono ?_
      rintro _ _ ⟨rfl, hB⟩
      replace hb := hb.trans (hB.mono hb.size)
      clear hB
      go_wp2_with fail
      go_ret
      exact ⟨rfl, hb⟩

theorem aor_any (t : ByteArray) (xa : Option Addr) (n cap : Nat) (s : Nat → ByteArray) (w : World) (hG : Ground w) (hr : Rs w xa n s) (hmax : n ≤ 9223372036854775807) :
    Calls Tryz.prog 7 #[.string t, .slice xa n cap] w fun r w' => r = .returned (.bool true) ∧ Below w.heap.size w w' := by
  cases ht : over t with
  | true => exact aor_long1 t xa n cap w hG ht
  | false =>
    cases hl : great n s with
    | true => exact aor_long2 t xa n cap s w hG hr hmax ht hl
    | false =>
      obtain ⟨hf, ht30⟩ := fitW_of ht hl
      by_cases h : weighE t n s = 0
      · exact aor_ok t xa n cap s w hG hr hmax ht hl hf h ht30
      · exact aor_bad t xa n cap s w hG hr hmax ht hl hf h

end Go.Proofs.YthhihdihkddakaaGreatDoor
