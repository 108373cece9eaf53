/- the law DecimalModes: the walk. -/
import Derived.Test.YtlonbfddhfacmaaGreatDoorMMa
import Derived.Deep.DeepCutAuto
import Derived.Deep.RegionHeld3
import Derived.Laws.NewBlocks
namespace Go.Proofs.YtlonbfddhfacmaaGreatDoor
open Go.RowKit Fra

set_option maxRecDepth 100000 in
set_option maxHeartbeats 16000000 in
theorem dmo_long (fn fd : ByteArray) (w : World) (hG : Ground w) (hl : longF fn fd = true) :
    Calls Tryz.prog 7 #[.agg #[.string fn, .string fd]] w fun e w' => e = .returned (.bool true) ∧ Below w.heap.size w w' := by
  have HL := Lib.hid hl
  have HAW := Lib.hid dawake_any
  clear hl
  obtain ⟨W0, hW0⟩ : ∃ W0, W0 = w.alloc (.cells #[.string fn, .string fd] 24) := ⟨_, rfl⟩
  have hS : StL w W0 [(w.heap.size, fn, fd)] := by rw [hW0]; exact StL.one hG _ _
  go_enter Tryz.func7, Tryz.ntmps7
  go_upto_region 1 with fail
  rw [← hW0]
  clear hW0
  obtain ⟨fp0, _⟩ := hS.box
  obtain ⟨fx0, fy0, _, _⟩ := fp0.cells
  go_wp2_with fail
  clear fp0 fx0 fy0
  refine Calls.mono (rLongF fn fd _) ?_
  rintro _ w1 ⟨rfl, hB⟩
  replace hS := hS.next hB
  clear hB
  rw [HL.out]
  obtain ⟨fp0, _⟩ := hS.box
  obtain ⟨fx0, fy0, _, _⟩ := fp0.cells
  go_wp2_with fail
  clear fp0 fx0 fy0
  refine Calls.mono (Ret.call HAW.out _ hS.g) ?_
  rintro _ w2 ⟨rfl, hB⟩
  replace hS := hS.next hB
  clear hB
  obtain ⟨fp0, _⟩ := hS.box
  obtain ⟨fx0, fy0, _, _⟩ := fp0.cells
  go_wp2_with fail
  go_ret
  exact ⟨rfl, hS.below⟩

set_option maxRecDepth 100000 in
set_option maxHeartbeats 16000000 in
theorem dmo_in (fn fd : ByteArray) (w : World) (hG : Ground w) (hn : fn.size ≤ 60) (hd : fd.size ≤ 60) (hl : longF fn fd = false) :
    Calls Tryz.prog 7 #[.agg #[.string fn, .string fd]] w fun e w' => e = .returned (.bool true) ∧ Below w.heap.size w w' := by
  have HL := Lib.hid hl
  have HAW := Lib.hid dawake_any
  clear hl
  obtain ⟨x, hx⟩ : ∃ x, raw fn fd = x := ⟨_, rfl⟩
  have Hf : Giv 60 fn fd x := ⟨hx, hn, hd⟩
  have hcx := Hf.cap (by decide)
  have hxp := Hf.pos
  obtain ⟨y, hy⟩ : ∃ y, negP x = y := ⟨_, rfl⟩
  have hyp : 0 < y.2 := by rw [← hy]; exact negP_pos hxp
  have hcy : CapP 60 y := by rw [← hy]; exact CapP.neg hcx hxp
  have HY := Lib.hid hy
  have HYV := Lib.hid (show Val (cS y.1) (cD y.2) y from Val.of hcy hyp (by decide))
  obtain ⟨A, hA⟩ : ∃ A : Nat → ByteArray, A = fun z : Nat => cS (rnd (z : Int) x) := ⟨_, rfl⟩
  obtain ⟨N, hN⟩ : ∃ N : Nat → ByteArray, N = fun z : Nat => cS (rnd (z : Int) y) := ⟨_, rfl⟩
  obtain ⟨B, hB⟩ : ∃ B : Nat → ByteArray, B = fun z : Nat => cS (-rnd (z : Int) y) := ⟨_, rfl⟩
  have HR1 := Lib.hid (show ∀ z : Nat, 1 ≤ z → z ≤ 6 → Ret 13 #[.agg #[.string fn, .string fd], .int .i64 (z : Int)] (two (A z) 0) from fun z h1 h6 => by rw [hA]; exact round_ok (Hf.arg (by decide)) (by omega) (by omega) rfl)
  have HR2 := Lib.hid (show ∀ z : Nat, 1 ≤ z → z ≤ 6 → Ret 13 #[.agg #[.string (cS y.1), .string (cD y.2)], .int .i64 (z : Int)] (two (N z) 0) from fun z h1 h6 => by rw [hN]; exact round_ok HYV.out (by omega) (by omega) rfl)
  have HNE := Lib.hid (show ∀ z : Nat, ∀ W, Calls Tryz.prog 37 #[.string (N z)] W fun e w' => e = .returned (.string (B z)) ∧ W = w' from fun z W => by
    rw [hN, hB]
    exact neg_v W (by have := cS_size (rnd_cap (m := (z : Int)) hcy.1 hyp); show (cS (rnd (z : Int) y)).size ≤ _; omega) (vS_cS _) rfl)
  obtain ⟨lo, hlo⟩ : ∃ z, rnd 5 x = z := ⟨_, rfl⟩
  obtain ⟨hi, hhi⟩ : ∃ z, rnd 6 x = z := ⟨_, rfl⟩
  have HA5 := Lib.hid (show A 5 = cS lo by rw [hA, ← hlo]; rfl)
  have HA6 := Lib.hid (show A 6 = cS hi by rw [hA, ← hhi]; rfl)
  have HB5 := Lib.hid (show B 5 = cS hi by rw [hB, ← hhi, ← hy, ← neg_five hxp]; rfl)
  have HB6 := Lib.hid (show B 6 = cS lo by rw [hB, ← hlo, ← hy, ← neg_six hxp]; rfl)
  have HBZ := Lib.hid (show ∀ z : Nat, 1 ≤ z → z ≤ 4 → B z = A z from fun z h1 h4 => by rw [hB, hA, ← hy]; show cS (-rnd (z : Int) (negP x)) = cS (rnd (z : Int) x); rw [neg_mode hxp (by omega) (by omega)])
  have HAZ := Lib.hid (show ∀ z : Nat, A z = cS lo ∨ (A z ≠ cS lo ∧ A z = cS hi) from fun z => by
    rw [hA]
    show cS (rnd (z : Int) x) = cS lo ∨ (cS (rnd (z : Int) x) ≠ cS lo ∧ cS (rnd (z : Int) x) = cS hi)
    rcases mode_ways (z : Int) x with e | ⟨e1, e2⟩
    · exact Or.inl (by rw [e, hlo])
    · exact Or.inr ⟨fun e => e1 (by rw [hlo, ← vS_cS (rnd (z : Int) x), e, vS_cS]), by rw [e2, hhi]⟩)
  have hcl : Cap 62 lo := by rw [← hlo]; exact rnd_cap hcx.1 hxp
  have hch : Cap 62 hi := by rw [← hhi]; exact rnd_cap hcx.1 hxp
  have HLH := Lib.hid (show hi = lo ∨ (hi ≠ lo ∧ lo + 1 = hi) by rw [← hlo, ← hhi]; exact high_ways x)
  have HSL := Lib.hid (show (cS lo).size ≤ 100000 by have := cS_size hcl; omega)
  have HSH := Lib.hid (show (cS hi).size ≤ 100000 by have := cS_size hch; omega)
  have HVL := Lib.hid (int_val hcl (by decide))
  have HVH := Lib.hid (int_val hch (by decide))
  obtain ⟨c1, hc1⟩ : ∃ c, cmpP (lo, 1) x = c := ⟨_, rfl⟩
  obtain ⟨c2, hc2⟩ : ∃ c, cmpP x (hi, 1) = c := ⟨_, rfl⟩
  have HC1 := Lib.hid hc1
  have HC2 := Lib.hid hc2
  have HD1 := Lib.hid (show decide (0 < c1) = false from decide_eq_false (by rw [← hc1, ← hlo]; have := rnd_low_le hxp; omega))
  have HD2 := Lib.hid (show decide (0 < c2) = false from decide_eq_false (by rw [← hc2, ← hhi]; have := rnd_le_high hxp; omega))
  obtain ⟨c0, hc0⟩ : ∃ c, cmpP x (0, 1) = c := ⟨_, rfl⟩
  have HC0 := Lib.hid hc0
  have HSG := Lib.hid (show (c0 < 0 ∧ A 4 = cS lo ∧ A 3 = cS hi) ∨ (¬ c0 < 0 ∧ A 3 = cS lo ∧ A 4 = cS hi) by
    rw [hA, ← hc0, ← hlo, ← hhi]
    by_cases h : cmpP x (0, 1) < 0
    · have e := away_neg hxp h
      exact Or.inl ⟨h, by show cS (rnd 4 x) = _; rw [e.1], by show cS (rnd 3 x) = _; rw [e.2]⟩
    · have e := away_pos hxp h
      exact Or.inr ⟨h, by show cS (rnd 3 x) = _; rw [e.1], by show cS (rnd 4 x) = _; rw [e.2]⟩)
  have HF := Lib.hid Hf
  have hGw := Lib.hid hG
  clear hn hd hx Hf hcx hxp hy hyp hcy hA hN hB hlo hhi hcl hch hc1 hc2 hc0
  obtain ⟨W0, hW0⟩ : ∃ W0, W0 = w.alloc (.cells #[.string fn, .string fd] 24) := ⟨_, rfl⟩
  have hS : StL w W0 [(w.heap.size, fn, fd)] := by rw [hW0]; exact StL.one hG _ _
  go_enter Tryz.func7, Tryz.ntmps7
  go_upto_region 1 with fail
  rw [← hW0]
  clear hW0
  obtain ⟨fp0, _⟩ := hS.box
  obtain ⟨fx0, fy0, _, _⟩ := fp0.cells
  go_wp2_with fail
  clear fp0 fx0 fy0
  refine Calls.mono (rLongF fn fd _) ?_
  rintro _ w1 ⟨rfl, hB⟩
  replace hS := hS.next hB
  clear hB
  rw [HL.out]
  obtain ⟨fp0, _⟩ := hS.box
  obtain ⟨fx0, fy0, _, _⟩ := fp0.cells
  go_upto_region 3 with fail
  clear fp0 fx0 fy0
  have hM0 := StM.begin (a := A) (c := B) hS
  go_upto_region 4 with fail
  obtain ⟨V, hV⟩ : ∃ V, V = (w1.alloc (.cells #[.string ⟨#[]⟩, .string ⟨#[]⟩, .string ⟨#[]⟩, .string ⟨#[]⟩, .string ⟨#[]⟩, .string ⟨#[]⟩, .string ⟨#[]⟩] 53)).alloc (.cells #[.string ⟨#[]⟩, .string ⟨#[]⟩, .string ⟨#[]⟩, .string ⟨#[]⟩, .string ⟨#[]⟩, .string ⟨#[]⟩, .string ⟨#[]⟩] 53) := ⟨_, rfl⟩
  have hM : StM w V fn fd w1.heap.size (upTo A 1) (upTo B 1) := by rw [hV]; exact hM0
  rw [← hV]
  clear hV hM0 hS
  obtain ⟨bl, hbl⟩ : ∃ b, b = w1.heap.size := ⟨_, rfl⟩
  rw [← hbl] at hM
  rw [← hbl]
  clear hbl
  have HM := Lib.hid hM
  clear hM
  go_wp2_with fail
  go_loopw [5] (fun mv wr => ∃ z : Nat, 1 ≤ z ∧ z ≤ 7 ∧ mv = .int .i64 (z : Int) ∧ StM w wr fn fd bl (upTo A z) (upTo B z)) (fun mv _ => 7 - (intOf mv).toNat)
  case atStart => exact ⟨1, by decide, by decide, rfl, HM.out⟩
  case round =>
    obtain ⟨z, hz1, hz7, rfl, hM⟩ := hrel
    clear HM
    by_cases hle : (z : Int) ≤ 6
    · have hz6 : z ≤ 6 := by omega
      obtain ⟨fx, fy, _, _⟩ := hM.f.cells
      go_wp2_with fail
      clear fx fy
      refine Calls.mono (Ret.call (HR1.out z hz1 hz6) _ hM.g) ?_
      rintro _ w2 ⟨rfl, hB⟩
      replace hM := hM.next hB
      clear hB
      obtain ⟨fx, fy, _, _⟩ := hM.f.cells
      go_wp2_with fail
      clear fx fy
      refine Calls.mono (fNeg_v (z := y) _ hM.g (HF.out.arg (by decide)) HY.out) ?_
      rintro _ w3 ⟨rfl, hB⟩
      replace hM := hM.next hB
      clear hB
      go_wp2_with fail
      refine Calls.mono (Ret.call (HR2.out z hz1 hz6) _ hM.g) ?_
      rintro _ w4 ⟨rfl, hB⟩
      replace hM := hM.next hB
      clear hB
      go_upto_region 11 with fail
      have l0 := hM.l.cell (upTo_at A hz6)
      have m0 := hM.m.cell (upTo_at B hz6)
      have lf := hM.l.frozen z
      have mf := hM.m.frozen z
      have hzi0 : (0 : Int) ≤ (z : Int) := by omega
      have hzi7 : (z : Int) < 7 := by omega
      have hbb : bl ≠ bl + 1 := by omega
      have hbb2 : bl + 1 ≠ bl := by omega
      have HM := Lib.hid hM
      clear hM
      go_region_held3 (fun _ => True) (trivial) (first
        | (go_at_call 37; (with_reducible refine Calls.mono (HNE.out z _) ?_); (rintro _ _ ⟨rfl, rfl⟩)))
      all_goals go_wp2_with fail
      all_goals exact ⟨⟨z + 1, by omega, by omega, by go_num, by rw [upTo_set A hz1 hz6, upTo_set B hz1 hz6]; first | exact (HM.out.store hG z _ _).drew | exact HM.out.drew.store hG z _ _⟩, by simp [intOf]; omega⟩
    · obtain rfl : z = 7 := by omega
      have HM := Lib.hid hM
      clear hM
      go_upto_region 12 with fail
      have l5 := HM.out.l.cell (upTo_all A (z := 5) (by omega) (by omega))
      rw [HA5.out] at l5
      have l6 := HM.out.l.cell (upTo_all A (z := 6) (by omega) (by omega))
      rw [HA6.out] at l6
      refine wp_region_held_drew (S := fun w' => w'.cell? ⟨bl, 5, none⟩ = some (.string (cS lo)) ∧ w'.cell? ⟨bl, 6, none⟩ = some (.string (cS hi))) (by kernel_rfl) (by (try dsimp only); go_keep) (fun hHeld => ?_)
      refine wpAnyH_take (i := 0) (oi := { dst := some 48, op := Op.indexAddr 53 (Operand.tmp 3) (Operand.const (Value.int IntKind.i64 5)), type := 0, pos := "law.go:128", after := #[], guard := none }) (v := ?_) rfl (by kernel_rfl) (by kernel_rfl) (by kernel_rfl) (fun _ _ _ h => h) (Or.inl ⟨by rfl, ?_⟩) (by assumption) ?_
      rotate_left
      focus ((intro w hSw; (try dsimp only at hSw); go_simp); (try with_reducible rfl))
      try simp only [Act.put, List.setIfInBounds_toArray, List.set_cons_zero, List.set_cons_succ]
      refine wpAnyH_take (i := 2) (oi := { dst := some 50, op := Op.indexAddr 53 (Operand.tmp 3) (Operand.const (Value.int IntKind.i64 6)), type := 0, pos := "law.go:128", after := #[{ on := 4, ground := Ground.gcOnly Departure.lateStores }], guard := none }) (v := ?_) rfl (by kernel_rfl) (by kernel_rfl) (by kernel_rfl) (fun _ _ _ h => h) (Or.inl ⟨by rfl, ?_⟩) (by assumption) ?_
      rotate_left
      focus ((intro w hSw; (try dsimp only at hSw); go_simp); (try with_reducible rfl))
      try simp only [Act.put, List.setIfInBounds_toArray, List.set_cons_zero, List.set_cons_succ]
      refine wpAnyH_take (i := 1) (oi := { dst := some 49, op := Op.load 22 (Operand.tmp 48), type := 22, pos := "law.go:128", after := #[{ on := 0, ground := Ground.data }], guard := none }) (v := ?_) rfl (by kernel_rfl) (by kernel_rfl) (by kernel_rfl) (fun _ _ _ h => h) (Or.inl ⟨by rfl, ?_⟩) (by assumption) ?_
      rotate_left
      focus ((intro w hSw; (try dsimp only at hSw); go_simp); (try with_reducible rfl))
      try simp only [Act.put, List.setIfInBounds_toArray, List.set_cons_zero, List.set_cons_succ]
      refine wpAnyH_take (i := 3) (oi := { dst := some 51, op := Op.load 22 (Operand.tmp 50), type := 22, pos := "law.go:128", after := #[{ on := 2, ground := Ground.data }, { on := 4, ground := Ground.gcOnly Departure.lateStores }], guard := none }) (v := ?_) rfl (by kernel_rfl) (by kernel_rfl) (by kernel_rfl) (fun _ _ _ h => h) (Or.inl ⟨by rfl, ?_⟩) (by assumption) ?_
      rotate_left
      focus ((intro w hSw; (try dsimp only at hSw); go_simp); (try with_reducible rfl))
      try simp only [Act.put, List.setIfInBounds_toArray, List.set_cons_zero, List.set_cons_succ]
      refine wpAnyH_take (i := 4) (oi := { dst := some 10, op := Op.assign (Operand.tmp 49), type := 22, pos := "law.go:128", after := #[{ on := 1, ground := Ground.data }, { on := 0, ground := Ground.phase }, { on := 1, ground := Ground.phase }, { on := 2, ground := Ground.textOnly Departure.lateStores }, { on := 3, ground := Ground.textOnly Departure.lateStores }], guard := none }) (v := ?_) rfl (by kernel_rfl) (by kernel_rfl) (by kernel_rfl) (fun _ _ _ h => h) (Or.inl ⟨by rfl, ?_⟩) (by assumption) ?_
      rotate_left
      focus ((intro w hSw; (try dsimp only at hSw); go_simp); (try with_reducible rfl))
      try simp only [Act.put, List.setIfInBounds_toArray, List.set_cons_zero, List.set_cons_succ]
      refine wpAnyH_take (i := 5) (oi := { dst := some 11, op := Op.assign (Operand.tmp 51), type := 22, pos := "law.go:128", after := #[{ on := 3, ground := Ground.data }, { on := 4, ground := Ground.chain }, { on := 0, ground := Ground.phase }, { on := 1, ground := Ground.phase }, { on := 2, ground := Ground.phase }, { on := 3, ground := Ground.phase }, { on := 4, ground := Ground.phase }], guard := none }) (v := ?_) rfl (by kernel_rfl) (by kernel_rfl) (by kernel_rfl) (fun _ _ _ h => h) (Or.inl ⟨by rfl, ?_⟩) (by assumption) ?_
      rotate_left
      focus ((intro w hSw; (try dsimp only at hSw); go_simp); (try with_reducible rfl))
      try simp only [Act.put, List.setIfInBounds_toArray, List.set_cons_zero, List.set_cons_succ]
      refine wpAnyH_done (by kernel_rfl) ?_ _
      clear hHeld
      clear l5 l6
      replace HM := Lib.hid HM.out.drew
      go_upto_region 13 with fail
      rcases HLH.out with he | ⟨hne, hadd⟩
      · have he2 := he.symm
        clear he
        subst he2
        obtain ⟨fx, fy, _, _⟩ := HM.out.f.cells
        have m6 := HM.out.m.cell (upTo_all B (z := 6) (by omega) (by omega))
        rw [HB6.out] at m6
        have m5 := HM.out.m.cell (upTo_all B (z := 5) (by omega) (by omega))
        rw [HB5.out] at m5
        refine wp_region_held_drew (S := fun w' => w'.cell? ⟨w.heap.size, 0, none⟩ = some (.string fn) ∧ w'.cell? ⟨w.heap.size, 1, none⟩ = some (.string fd) ∧ w'.cell? ⟨bl + 1, 6, none⟩ = some (.string (cS lo)) ∧ w'.cell? ⟨bl + 1, 5, none⟩ = some (.string (cS lo))) (by kernel_rfl) (by (try dsimp only); go_keep) (fun hHeld => ?_)
        refine wpAnyH_take (i := 0) (oi := { dst := some 52, op := Op.move (Operand.tmp 10), type := 22, pos := "law.go:129", after := #[], guard := none }) (v := ?_) rfl (by kernel_rfl) (by kernel_rfl) (by kernel_rfl) (fun _ _ _ h => h) (Or.inl ⟨by rfl, ?_⟩) (by assumption) ?_
        rotate_left
        focus ((intro w hSw; (try dsimp only at hSw); go_simp); (try with_reducible rfl))
        try simp only [Act.put, List.setIfInBounds_toArray, List.set_cons_zero, List.set_cons_succ]
        refine wpAnyH_take (i := 2) (oi := { dst := some 54, op := Op.load 24 (Operand.tmp 1), type := 24, pos := "law.go:129", after := #[], guard := none }) (v := ?_) rfl (by kernel_rfl) (by kernel_rfl) (by kernel_rfl) (fun _ _ _ h => h) (Or.inl ⟨by rfl, ?_⟩) (by assumption) ?_
        rotate_left
        focus ((intro w hSw; (try dsimp only at hSw); go_simp); (try with_reducible rfl))
        try simp only [Act.put, List.setIfInBounds_toArray, List.set_cons_zero, List.set_cons_succ]
        refine wpAnyH_ready (rs := [1]) (by kernel_rfl) (by simp) ?_
        refine AllReadyH.cons (o := { dst := some 53, op := Op.call { callee := Callee.value (Operand.func 31), args := #[Operand.tmp 52], argTypes := #[22] }, type := 24, pos := "law.go:129", after := #[{ on := 0, ground := Ground.data }], guard := none }) rfl (fun K hK => ?_) AllReadyH.nil
        clear hHeld
        go_simp
        with_reducible refine Calls.mono (fOf_v (p := lo) _ (by first | exact HM.out.g | exact HM.out.drew.g | exact (HM.out.drewN _).g) HSL.out (vS_cS _)) ?_
        rintro e WX ⟨rfl, hB1⟩
        have HM2 : StM w WX fn fd bl (upTo A 7) (upTo B 7) := (by first | exact HM.out.next hB1 | exact HM.out.next1 hB1 | exact HM.out.nextD hB1)
        replace HM := Lib.hid HM2
        clear hB1 HM2
        clear fx fy m6 m5
        obtain ⟨fx, fy, _, _⟩ := HM.out.f.cells
        have m6 := HM.out.m.cell (upTo_all B (z := 6) (by omega) (by omega))
        rw [HB6.out] at m6
        have m5 := HM.out.m.cell (upTo_all B (z := 5) (by omega) (by omega))
        rw [HB5.out] at m5
        go_wp2_with fail
        refine hK.out _ _ (by (try dsimp only); go_keep) (fun hHeld => ?_)
        clear hK K
        try simp only [Act.put, List.setIfInBounds_toArray, List.set_cons_zero, List.set_cons_succ]
        refine wpAnyH_ready (rs := [3]) (by kernel_rfl) (by simp) ?_
        refine AllReadyH.cons (o := { dst := some 55, op := Op.call { callee := Callee.value (Operand.func 29), args := #[Operand.tmp 53, Operand.tmp 54], argTypes := #[24, 24] }, type := 3, pos := "law.go:129", after := #[{ on := 1, ground := Ground.data }, { on := 2, ground := Ground.data }, { on := 1, ground := Ground.chain }], guard := none }) rfl (fun K hK => ?_) AllReadyH.nil
        clear hHeld
        go_simp
        with_reducible refine Calls.mono (fCompare_v (c := c1) _ (by first | exact HM.out.g | exact HM.out.drew.g | exact (HM.out.drewN _).g) HVL.out (HF.out.arg (by decide)) HC1.out) ?_
        rintro e WX ⟨rfl, hB1⟩
        have HM2 : StM w WX fn fd bl (upTo A 7) (upTo B 7) := (by first | exact HM.out.next hB1 | exact HM.out.next1 hB1 | exact HM.out.nextD hB1)
        replace HM := Lib.hid HM2
        clear hB1 HM2
        clear fx fy m6 m5
        obtain ⟨fx, fy, _, _⟩ := HM.out.f.cells
        have m6 := HM.out.m.cell (upTo_all B (z := 6) (by omega) (by omega))
        rw [HB6.out] at m6
        have m5 := HM.out.m.cell (upTo_all B (z := 5) (by omega) (by omega))
        rw [HB5.out] at m5
        go_wp2_with fail
        refine hK.out _ _ (by (try dsimp only); go_keep) (fun hHeld => ?_)
        clear hK K
        try simp only [Act.put, List.setIfInBounds_toArray, List.set_cons_zero, List.set_cons_succ]
        refine wpAnyH_take (i := 4) (oi := { dst := some 56, op := Op.binOp BinOp.gtr 3 (Operand.tmp 55) (Operand.const (Value.int IntKind.i64 0)) 3, type := 4, pos := "law.go:129", after := #[{ on := 3, ground := Ground.data }], guard := none }) (v := ?_) rfl (by kernel_rfl) (by kernel_rfl) (by kernel_rfl) (fun _ _ _ h => h) (Or.inl ⟨by rfl, ?_⟩) (by assumption) ?_
        rotate_left
        focus ((intro w hSw; (try dsimp only at hSw); go_simp); (try with_reducible rfl))
        try simp only [Act.put, List.setIfInBounds_toArray, List.set_cons_zero, List.set_cons_succ]
        rw [HD1.out]
        refine wpAnyH_take (i := 5) (oi := { dst := some 57, op := Op.move (Operand.tmp 56), type := 4, pos := "law.go:129", after := #[{ on := 4, ground := Ground.data }, { on := 3, ground := Ground.chain }], guard := none }) (v := ?_) rfl (by kernel_rfl) (by kernel_rfl) (by kernel_rfl) (fun _ _ _ h => h) (Or.inl ⟨by rfl, ?_⟩) (by assumption) ?_
        rotate_left
        focus ((intro w hSw; (try dsimp only at hSw); go_simp); (try with_reducible rfl))
        try simp only [Act.put, List.setIfInBounds_toArray, List.set_cons_zero, List.set_cons_succ]
        refine wpAnyH_take (i := 6) (oi := { dst := some 58, op := Op.load 24 (Operand.tmp 1), type := 24, pos := "law.go:129", after := #[{ on := 5, ground := Ground.guard }], guard := some (5, false) }) (v := ?_) rfl (by kernel_rfl) (by kernel_rfl) (by kernel_rfl) (fun _ _ _ h => h) (Or.inl ⟨by rfl, ?_⟩) (by assumption) ?_
        rotate_left
        focus ((intro w hSw; (try dsimp only at hSw); go_simp); (try with_reducible rfl))
        try simp only [Act.put, List.setIfInBounds_toArray, List.set_cons_zero, List.set_cons_succ]
        refine wpAnyH_take (i := 7) (oi := { dst := some 59, op := Op.move (Operand.tmp 11), type := 22, pos := "law.go:129", after := #[{ on := 5, ground := Ground.guard }], guard := some (5, false) }) (v := ?_) rfl (by kernel_rfl) (by kernel_rfl) (by kernel_rfl) (fun _ _ _ h => h) (Or.inl ⟨by rfl, ?_⟩) (by assumption) ?_
        rotate_left
        focus ((intro w hSw; (try dsimp only at hSw); go_simp); (try with_reducible rfl))
        try simp only [Act.put, List.setIfInBounds_toArray, List.set_cons_zero, List.set_cons_succ]
        refine wpAnyH_ready (rs := [8]) (by kernel_rfl) (by simp) ?_
        refine AllReadyH.cons (o := { dst := some 60, op := Op.call { callee := Callee.value (Operand.func 31), args := #[Operand.tmp 59], argTypes := #[22] }, type := 24, pos := "law.go:129", after := #[{ on := 7, ground := Ground.data }, { on := 5, ground := Ground.chain }, { on := 5, ground := Ground.guard }], guard := some (5, false) }) rfl (fun K hK => ?_) AllReadyH.nil
        clear hHeld
        go_simp
        with_reducible refine Calls.mono (fOf_v (p := lo) _ (by first | exact HM.out.g | exact HM.out.drew.g | exact (HM.out.drewN _).g) HSH.out (vS_cS _)) ?_
        rintro e WX ⟨rfl, hB1⟩
        have HM2 : StM w WX fn fd bl (upTo A 7) (upTo B 7) := (by first | exact HM.out.next hB1 | exact HM.out.next1 hB1 | exact HM.out.nextD hB1)
        replace HM := Lib.hid HM2
        clear hB1 HM2
        clear fx fy m6 m5
        obtain ⟨fx, fy, _, _⟩ := HM.out.f.cells
        have m6 := HM.out.m.cell (upTo_all B (z := 6) (by omega) (by omega))
        rw [HB6.out] at m6
        have m5 := HM.out.m.cell (upTo_all B (z := 5) (by omega) (by omega))
        rw [HB5.out] at m5
        go_wp2_with fail
        refine hK.out _ _ (by (try dsimp only); go_keep) (fun hHeld => ?_)
        clear hK K
        try simp only [Act.put, List.setIfInBounds_toArray, List.set_cons_zero, List.set_cons_succ]
        refine wpAnyH_ready (rs := [9]) (by kernel_rfl) (by simp) ?_
        refine AllReadyH.cons (o := { dst := some 61, op := Op.call { callee := Callee.value (Operand.func 29), args := #[Operand.tmp 58, Operand.tmp 60], argTypes := #[24, 24] }, type := 3, pos := "law.go:129", after := #[{ on := 6, ground := Ground.data }, { on := 8, ground := Ground.data }, { on := 8, ground := Ground.chain }, { on := 5, ground := Ground.guard }], guard := some (5, false) }) rfl (fun K hK => ?_) AllReadyH.nil
        clear hHeld
        go_simp
        with_reducible refine Calls.mono (fCompare_v (c := c2) _ (by first | exact HM.out.g | exact HM.out.drew.g | exact (HM.out.drewN _).g) (HF.out.arg (by decide)) HVH.out HC2.out) ?_
        rintro e WX ⟨rfl, hB1⟩
        have HM2 : StM w WX fn fd bl (upTo A 7) (upTo B 7) := (by first | exact HM.out.next hB1 | exact HM.out.next1 hB1 | exact HM.out.nextD hB1)
        replace HM := Lib.hid HM2
        clear hB1 HM2
        clear fx fy m6 m5
        obtain ⟨fx, fy, _, _⟩ := HM.out.f.cells
        have m6 := HM.out.m.cell (upTo_all B (z := 6) (by omega) (by omega))
        rw [HB6.out] at m6
        have m5 := HM.out.m.cell (upTo_all B (z := 5) (by omega) (by omega))
        rw [HB5.out] at m5
        go_wp2_with fail
        refine hK.out _ _ (by (try dsimp only); go_keep) (fun hHeld => ?_)
        clear hK K
        try simp only [Act.put, List.setIfInBounds_toArray, List.set_cons_zero, List.set_cons_succ]
        refine wpAnyH_take (i := 10) (oi := { dst := some 62, op := Op.binOp BinOp.gtr 3 (Operand.tmp 61) (Operand.const (Value.int IntKind.i64 0)) 3, type := 4, pos := "law.go:129", after := #[{ on := 9, ground := Ground.data }, { on := 5, ground := Ground.guard }], guard := some (5, false) }) (v := ?_) rfl (by kernel_rfl) (by kernel_rfl) (by kernel_rfl) (fun _ _ _ h => h) (Or.inl ⟨by rfl, ?_⟩) (by assumption) ?_
        rotate_left
        focus ((intro w hSw; (try dsimp only at hSw); go_simp); (try with_reducible rfl))
        try simp only [Act.put, List.setIfInBounds_toArray, List.set_cons_zero, List.set_cons_succ]
        rw [HD2.out]
        refine wpAnyH_take (i := 11) (oi := { dst := some 63, op := Op.pick (Operand.tmp 57) (Operand.const (Value.bool true)) (Operand.tmp 62), type := 4, pos := "law.go:129", after := #[{ on := 5, ground := Ground.data }, { on := 10, ground := Ground.data }], guard := none }) (v := ?_) rfl (by kernel_rfl) (by kernel_rfl) (by kernel_rfl) (fun _ _ _ h => h) (Or.inl ⟨by rfl, ?_⟩) (by assumption) ?_
        rotate_left
        focus ((intro w hSw; (try dsimp only at hSw); go_simp); (try with_reducible rfl))
        try simp only [Act.put, List.setIfInBounds_toArray, List.set_cons_zero, List.set_cons_succ]
        refine wpAnyH_take (i := 12) (oi := { dst := some 64, op := Op.move (Operand.tmp 63), type := 4, pos := "law.go:129", after := #[{ on := 11, ground := Ground.data }, { on := 9, ground := Ground.chain }], guard := none }) (v := ?_) rfl (by kernel_rfl) (by kernel_rfl) (by kernel_rfl) (fun _ _ _ h => h) (Or.inl ⟨by rfl, ?_⟩) (by assumption) ?_
        rotate_left
        focus ((intro w hSw; (try dsimp only at hSw); go_simp); (try with_reducible rfl))
        try simp only [Act.put, List.setIfInBounds_toArray, List.set_cons_zero, List.set_cons_succ]
        refine wpAnyH_take (i := 13) (oi := { dst := some 65, op := Op.move (Operand.tmp 10), type := 22, pos := "law.go:129", after := #[{ on := 12, ground := Ground.guard }], guard := some (12, false) }) (v := ?_) rfl (by kernel_rfl) (by kernel_rfl) (by kernel_rfl) (fun _ _ _ h => h) (Or.inl ⟨by rfl, ?_⟩) (by assumption) ?_
        rotate_left
        focus ((intro w hSw; (try dsimp only at hSw); go_simp); (try with_reducible rfl))
        try simp only [Act.put, List.setIfInBounds_toArray, List.set_cons_zero, List.set_cons_succ]
        refine wpAnyH_take (i := 14) (oi := { dst := some 66, op := Op.move (Operand.tmp 11), type := 22, pos := "law.go:129", after := #[{ on := 12, ground := Ground.guard }], guard := some (12, false) }) (v := ?_) rfl (by kernel_rfl) (by kernel_rfl) (by kernel_rfl) (fun _ _ _ h => h) (Or.inl ⟨by rfl, ?_⟩) (by assumption) ?_
        rotate_left
        focus ((intro w hSw; (try dsimp only at hSw); go_simp); (try with_reducible rfl))
        try simp only [Act.put, List.setIfInBounds_toArray, List.set_cons_zero, List.set_cons_succ]
        refine wpAnyH_take (i := 15) (oi := { dst := some 67, op := Op.binOp BinOp.neq 22 (Operand.tmp 65) (Operand.tmp 66) 22, type := 4, pos := "law.go:129", after := #[{ on := 13, ground := Ground.data }, { on := 14, ground := Ground.data }, { on := 12, ground := Ground.guard }], guard := some (12, false) }) (v := ?_) rfl (by kernel_rfl) (by kernel_rfl) (by kernel_rfl) (fun _ _ _ h => h) (Or.inl ⟨by rfl, ?_⟩) (by assumption) ?_
        rotate_left
        focus ((intro w hSw; (try dsimp only at hSw); go_simp); (try with_reducible rfl))
        try simp only [Act.put, List.setIfInBounds_toArray, List.set_cons_zero, List.set_cons_succ]
        refine wpAnyH_take (i := 16) (oi := { dst := some 68, op := Op.move (Operand.tmp 67), type := 4, pos := "law.go:129", after := #[{ on := 15, ground := Ground.data }, { on := 12, ground := Ground.chain }, { on := 12, ground := Ground.guard }], guard := some (12, false) }) (v := ?_) rfl (by kernel_rfl) (by kernel_rfl) (by kernel_rfl) (fun _ _ _ h => h) (Or.inl ⟨by rfl, ?_⟩) (by assumption) ?_
        rotate_left
        focus ((intro w hSw; (try dsimp only at hSw); go_simp); (try with_reducible rfl))
        try simp only [Act.put, List.setIfInBounds_toArray, List.set_cons_zero, List.set_cons_succ]
        refine wpAnyH_take (i := 17) (oi := { dst := some 69, op := Op.move (Operand.tmp 10), type := 22, pos := "law.go:129", after := #[{ on := 16, ground := Ground.guard }], guard := some (16, true) }) (v := undef) rfl (by kernel_rfl) (by kernel_rfl) (by kernel_rfl) (fun _ _ _ h => h) (Or.inr ⟨by rfl, rfl⟩) (by assumption) ?_
        try simp only [Act.put, List.setIfInBounds_toArray, List.set_cons_zero, List.set_cons_succ]
        refine wpAnyH_take (i := 18) (oi := { dst := some 70, op := Op.call { callee := Callee.value (Operand.func 38), args := #[Operand.tmp 69, Operand.const (Value.string { data := #[49] })], argTypes := #[22, 22] }, type := 22, pos := "law.go:129", after := #[{ on := 17, ground := Ground.data }, { on := 16, ground := Ground.chain }, { on := 16, ground := Ground.guard }], guard := some (16, true) }) (v := undef) rfl (by kernel_rfl) (by kernel_rfl) (by kernel_rfl) (fun _ _ _ h => h) (Or.inr ⟨by rfl, rfl⟩) (by assumption) ?_
        try simp only [Act.put, List.setIfInBounds_toArray, List.set_cons_zero, List.set_cons_succ]
        refine wpAnyH_take (i := 19) (oi := { dst := some 71, op := Op.move (Operand.tmp 11), type := 22, pos := "law.go:129", after := #[{ on := 16, ground := Ground.guard }], guard := some (16, true) }) (v := undef) rfl (by kernel_rfl) (by kernel_rfl) (by kernel_rfl) (fun _ _ _ h => h) (Or.inr ⟨by rfl, rfl⟩) (by assumption) ?_
        try simp only [Act.put, List.setIfInBounds_toArray, List.set_cons_zero, List.set_cons_succ]
        refine wpAnyH_take (i := 20) (oi := { dst := some 72, op := Op.binOp BinOp.neq 22 (Operand.tmp 70) (Operand.tmp 71) 22, type := 4, pos := "law.go:129", after := #[{ on := 18, ground := Ground.data }, { on := 19, ground := Ground.data }, { on := 16, ground := Ground.guard }], guard := some (16, true) }) (v := undef) rfl (by kernel_rfl) (by kernel_rfl) (by kernel_rfl) (fun _ _ _ h => h) (Or.inr ⟨by rfl, rfl⟩) (by assumption) ?_
        try simp only [Act.put, List.setIfInBounds_toArray, List.set_cons_zero, List.set_cons_succ]
        refine wpAnyH_take (i := 21) (oi := { dst := some 73, op := Op.pick (Operand.tmp 68) (Operand.tmp 72) (Operand.const (Value.bool false)), type := 4, pos := "law.go:129", after := #[{ on := 16, ground := Ground.data }, { on := 20, ground := Ground.data }, { on := 12, ground := Ground.guard }], guard := some (12, false) }) (v := ?_) rfl (by kernel_rfl) (by kernel_rfl) (by kernel_rfl) (fun _ _ _ h => h) (Or.inl ⟨by rfl, ?_⟩) (by assumption) ?_
        rotate_left
        focus ((intro w hSw; (try dsimp only at hSw); go_simp); (try with_reducible rfl))
        try simp only [Act.put, List.setIfInBounds_toArray, List.set_cons_zero, List.set_cons_succ]
        refine wpAnyH_take (i := 22) (oi := { dst := some 74, op := Op.pick (Operand.tmp 64) (Operand.const (Value.bool true)) (Operand.tmp 73), type := 4, pos := "law.go:129", after := #[{ on := 12, ground := Ground.data }, { on := 21, ground := Ground.data }], guard := none }) (v := ?_) rfl (by kernel_rfl) (by kernel_rfl) (by kernel_rfl) (fun _ _ _ h => h) (Or.inl ⟨by rfl, ?_⟩) (by assumption) ?_
        rotate_left
        focus ((intro w hSw; (try dsimp only at hSw); go_simp); (try with_reducible rfl))
        try simp only [Act.put, List.setIfInBounds_toArray, List.set_cons_zero, List.set_cons_succ]
        refine wpAnyH_take (i := 23) (oi := { dst := some 75, op := Op.move (Operand.tmp 74), type := 4, pos := "law.go:129", after := #[{ on := 22, ground := Ground.data }, { on := 18, ground := Ground.chain }], guard := none }) (v := ?_) rfl (by kernel_rfl) (by kernel_rfl) (by kernel_rfl) (fun _ _ _ h => h) (Or.inl ⟨by rfl, ?_⟩) (by assumption) ?_
        rotate_left
        focus ((intro w hSw; (try dsimp only at hSw); go_simp); (try with_reducible rfl))
        try simp only [Act.put, List.setIfInBounds_toArray, List.set_cons_zero, List.set_cons_succ]
        refine wpAnyH_take (i := 24) (oi := { dst := some 76, op := Op.move (Operand.tmp 10), type := 22, pos := "law.go:129", after := #[{ on := 23, ground := Ground.guard }], guard := some (23, false) }) (v := ?_) rfl (by kernel_rfl) (by kernel_rfl) (by kernel_rfl) (fun _ _ _ h => h) (Or.inl ⟨by rfl, ?_⟩) (by assumption) ?_
        rotate_left
        focus ((intro w hSw; (try dsimp only at hSw); go_simp); (try with_reducible rfl))
        try simp only [Act.put, List.setIfInBounds_toArray, List.set_cons_zero, List.set_cons_succ]
        refine wpAnyH_take (i := 25) (oi := { dst := some 77, op := Op.indexAddr 53 (Operand.tmp 4) (Operand.const (Value.int IntKind.i64 6)), type := 0, pos := "law.go:129", after := #[{ on := 23, ground := Ground.guard }], guard := some (23, false) }) (v := ?_) rfl (by kernel_rfl) (by kernel_rfl) (by kernel_rfl) (fun _ _ _ h => h) (Or.inl ⟨by rfl, ?_⟩) (by assumption) ?_
        rotate_left
        focus ((intro w hSw; (try dsimp only at hSw); go_simp); (try with_reducible rfl))
        try simp only [Act.put, List.setIfInBounds_toArray, List.set_cons_zero, List.set_cons_succ]
        refine wpAnyH_take (i := 26) (oi := { dst := some 78, op := Op.load 22 (Operand.tmp 77), type := 22, pos := "law.go:129", after := #[{ on := 25, ground := Ground.data }, { on := 23, ground := Ground.guard }], guard := some (23, false) }) (v := ?_) rfl (by kernel_rfl) (by kernel_rfl) (by kernel_rfl) (fun _ _ _ h => h) (Or.inl ⟨by rfl, ?_⟩) (by assumption) ?_
        rotate_left
        focus ((intro w hSw; (try dsimp only at hSw); go_simp); (try with_reducible rfl))
        try simp only [Act.put, List.setIfInBounds_toArray, List.set_cons_zero, List.set_cons_succ]
        refine wpAnyH_take (i := 27) (oi := { dst := some 79, op := Op.binOp BinOp.neq 22 (Operand.tmp 76) (Operand.tmp 78) 22, type := 4, pos := "law.go:129", after := #[{ on := 24, ground := Ground.data }, { on := 26, ground := Ground.data }, { on := 23, ground := Ground.guard }], guard := some (23, false) }) (v := ?_) rfl (by kernel_rfl) (by kernel_rfl) (by kernel_rfl) (fun _ _ _ h => h) (Or.inl ⟨by rfl, ?_⟩) (by assumption) ?_
        rotate_left
        focus ((intro w hSw; (try dsimp only at hSw); go_simp); (try with_reducible rfl))
        try simp only [Act.put, List.setIfInBounds_toArray, List.set_cons_zero, List.set_cons_succ]
        refine wpAnyH_take (i := 28) (oi := { dst := some 80, op := Op.pick (Operand.tmp 75) (Operand.const (Value.bool true)) (Operand.tmp 79), type := 4, pos := "law.go:129", after := #[{ on := 23, ground := Ground.data }, { on := 27, ground := Ground.data }], guard := none }) (v := ?_) rfl (by kernel_rfl) (by kernel_rfl) (by kernel_rfl) (fun _ _ _ h => h) (Or.inl ⟨by rfl, ?_⟩) (by assumption) ?_
        rotate_left
        focus ((intro w hSw; (try dsimp only at hSw); go_simp); (try with_reducible rfl))
        try simp only [Act.put, List.setIfInBounds_toArray, List.set_cons_zero, List.set_cons_succ]
        refine wpAnyH_take (i := 29) (oi := { dst := some 81, op := Op.move (Operand.tmp 80), type := 4, pos := "law.go:129", after := #[{ on := 28, ground := Ground.data }, { on := 23, ground := Ground.chain }], guard := none }) (v := ?_) rfl (by kernel_rfl) (by kernel_rfl) (by kernel_rfl) (fun _ _ _ h => h) (Or.inl ⟨by rfl, ?_⟩) (by assumption) ?_
        rotate_left
        focus ((intro w hSw; (try dsimp only at hSw); go_simp); (try with_reducible rfl))
        try simp only [Act.put, List.setIfInBounds_toArray, List.set_cons_zero, List.set_cons_succ]
        refine wpAnyH_take (i := 30) (oi := { dst := some 82, op := Op.move (Operand.tmp 11), type := 22, pos := "law.go:129", after := #[{ on := 29, ground := Ground.guard }], guard := some (29, false) }) (v := ?_) rfl (by kernel_rfl) (by kernel_rfl) (by kernel_rfl) (fun _ _ _ h => h) (Or.inl ⟨by rfl, ?_⟩) (by assumption) ?_
        rotate_left
        focus ((intro w hSw; (try dsimp only at hSw); go_simp); (try with_reducible rfl))
        try simp only [Act.put, List.setIfInBounds_toArray, List.set_cons_zero, List.set_cons_succ]
        refine wpAnyH_take (i := 31) (oi := { dst := some 83, op := Op.indexAddr 53 (Operand.tmp 4) (Operand.const (Value.int IntKind.i64 5)), type := 0, pos := "law.go:129", after := #[{ on := 29, ground := Ground.guard }], guard := some (29, false) }) (v := ?_) rfl (by kernel_rfl) (by kernel_rfl) (by kernel_rfl) (fun _ _ _ h => h) (Or.inl ⟨by rfl, ?_⟩) (by assumption) ?_
        rotate_left
        focus ((intro w hSw; (try dsimp only at hSw); go_simp); (try with_reducible rfl))
        try simp only [Act.put, List.setIfInBounds_toArray, List.set_cons_zero, List.set_cons_succ]
        refine wpAnyH_take (i := 32) (oi := { dst := some 84, op := Op.load 22 (Operand.tmp 83), type := 22, pos := "law.go:129", after := #[{ on := 31, ground := Ground.data }, { on := 29, ground := Ground.guard }], guard := some (29, false) }) (v := ?_) rfl (by kernel_rfl) (by kernel_rfl) (by kernel_rfl) (fun _ _ _ h => h) (Or.inl ⟨by rfl, ?_⟩) (by assumption) ?_
        rotate_left
        focus ((intro w hSw; (try dsimp only at hSw); go_simp); (try with_reducible rfl))
        try simp only [Act.put, List.setIfInBounds_toArray, List.set_cons_zero, List.set_cons_succ]
        refine wpAnyH_take (i := 33) (oi := { dst := some 85, op := Op.binOp BinOp.neq 22 (Operand.tmp 82) (Operand.tmp 84) 22, type := 4, pos := "law.go:129", after := #[{ on := 30, ground := Ground.data }, { on := 32, ground := Ground.data }, { on := 29, ground := Ground.guard }], guard := some (29, false) }) (v := ?_) rfl (by kernel_rfl) (by kernel_rfl) (by kernel_rfl) (fun _ _ _ h => h) (Or.inl ⟨by rfl, ?_⟩) (by assumption) ?_
        rotate_left
        focus ((intro w hSw; (try dsimp only at hSw); go_simp); (try with_reducible rfl))
        try simp only [Act.put, List.setIfInBounds_toArray, List.set_cons_zero, List.set_cons_succ]
        refine wpAnyH_take (i := 34) (oi := { dst := some 86, op := Op.pick (Operand.tmp 81) (Operand.const (Value.bool true)) (Operand.tmp 85), type := 4, pos := "law.go:129", after := #[{ on := 29, ground := Ground.data }, { on := 33, ground := Ground.data }], guard := none }) (v := ?_) rfl (by kernel_rfl) (by kernel_rfl) (by kernel_rfl) (fun _ _ _ h => h) (Or.inl ⟨by rfl, ?_⟩) (by assumption) ?_
        rotate_left
        focus ((intro w hSw; (try dsimp only at hSw); go_simp); (try with_reducible rfl))
        try simp only [Act.put, List.setIfInBounds_toArray, List.set_cons_zero, List.set_cons_succ]
        refine wpAnyH_done (by kernel_rfl) ?_ _
        clear hHeld
        clear fx fy m6 m5
        go_wp2_with fail
        go_loopw [12] (fun iv wr => ∃ z : Nat, 1 ≤ z ∧ z ≤ 5 ∧ iv = .int .i64 (z : Int) ∧ StM w wr fn fd bl (upTo A 7) (upTo B 7)) (fun iv _ => 5 - (intOf iv).toNat)
        case atStart => exact ⟨1, by decide, by decide, rfl, HM.out⟩
        case round =>
          obtain ⟨z, hz1, hz5, rfl, hM⟩ := hrel
          clear HM
          by_cases hle : (z : Int) ≤ 4
          · have hz4 : z ≤ 4 := by omega
            have l0 := hM.l.cell (upTo_all A hz1 (by omega : z ≤ 6))
            have m0 := hM.m.cell (upTo_all B hz1 (by omega : z ≤ 6))
            rw [HBZ.out z hz1 hz4] at m0
            have hzi0 : (0 : Int) ≤ (z : Int) := by omega
            have hzi7 : (z : Int) < 7 := by omega
            have HM := Lib.hid hM
            clear hM
            go_upto_region 18 with fail
            rcases HAZ.out z with e | ⟨e1, e2⟩
            · rw [e] at l0 m0
              clear e
              refine wp_region_held_drew (S := fun w' => w'.cell? ⟨bl, z, none⟩ = some (.string (cS lo)) ∧ w'.cell? ⟨bl + 1, z, none⟩ = some (.string (cS lo))) (by kernel_rfl) (by (try dsimp only); go_keep) (fun hHeld => ?_)
              refine wpAnyH_take (i := 0) (oi := { dst := some 91, op := Op.move (Operand.tmp 12), type := 3, pos := "law.go:133", after := #[], guard := none }) (v := ?_) rfl (by kernel_rfl) (by kernel_rfl) (by kernel_rfl) (fun _ _ _ h => h) (Or.inl ⟨by rfl, ?_⟩) (by assumption) ?_
              rotate_left
              focus ((intro w hSw; (try dsimp only at hSw); go_simp); (try with_reducible rfl))
              try simp only [Act.put, List.setIfInBounds_toArray, List.set_cons_zero, List.set_cons_succ]
              refine wpAnyH_take (i := 1) (oi := { dst := some 92, op := Op.indexAddr 53 (Operand.tmp 3) (Operand.tmp 91), type := 0, pos := "law.go:133", after := #[{ on := 0, ground := Ground.data }], guard := none }) (v := ?_) rfl (by kernel_rfl) (by kernel_rfl) (by kernel_rfl) (fun _ _ _ h => h) (Or.inl ⟨by rfl, ?_⟩) (by assumption) ?_
              rotate_left
              focus ((intro w hSw; (try dsimp only at hSw); go_simp); (try with_reducible rfl))
              try simp only [Act.put, List.setIfInBounds_toArray, List.set_cons_zero, List.set_cons_succ]
              refine wpAnyH_take (i := 2) (oi := { dst := some 93, op := Op.load 22 (Operand.tmp 92), type := 22, pos := "law.go:133", after := #[{ on := 1, ground := Ground.data }], guard := none }) (v := ?_) rfl (by kernel_rfl) (by kernel_rfl) (by kernel_rfl) (fun _ _ _ h => h) (Or.inl ⟨by rfl, ?_⟩) (by assumption) ?_
              rotate_left
              focus ((intro w hSw; (try dsimp only at hSw); go_simp); (try with_reducible rfl))
              try simp only [Act.put, List.setIfInBounds_toArray, List.set_cons_zero, List.set_cons_succ]
              refine wpAnyH_take (i := 3) (oi := { dst := some 94, op := Op.move (Operand.tmp 10), type := 22, pos := "law.go:133", after := #[], guard := none }) (v := ?_) rfl (by kernel_rfl) (by kernel_rfl) (by kernel_rfl) (fun _ _ _ h => h) (Or.inl ⟨by rfl, ?_⟩) (by assumption) ?_
              rotate_left
              focus ((intro w hSw; (try dsimp only at hSw); go_simp); (try with_reducible rfl))
              try simp only [Act.put, List.setIfInBounds_toArray, List.set_cons_zero, List.set_cons_succ]
              refine wpAnyH_take (i := 4) (oi := { dst := some 95, op := Op.binOp BinOp.neq 22 (Operand.tmp 93) (Operand.tmp 94) 22, type := 4, pos := "law.go:133", after := #[{ on := 2, ground := Ground.data }, { on := 3, ground := Ground.data }], guard := none }) (v := ?_) rfl (by kernel_rfl) (by kernel_rfl) (by kernel_rfl) (fun _ _ _ h => h) (Or.inl ⟨by rfl, ?_⟩) (by assumption) ?_
              rotate_left
              focus ((intro w hSw; (try dsimp only at hSw); go_simp); (try with_reducible rfl))
              try simp only [Act.put, List.setIfInBounds_toArray, List.set_cons_zero, List.set_cons_succ]
              refine wpAnyH_take (i := 5) (oi := { dst := some 96, op := Op.move (Operand.tmp 95), type := 4, pos := "law.go:133", after := #[{ on := 4, ground := Ground.data }], guard := none }) (v := ?_) rfl (by kernel_rfl) (by kernel_rfl) (by kernel_rfl) (fun _ _ _ h => h) (Or.inl ⟨by rfl, ?_⟩) (by assumption) ?_
              rotate_left
              focus ((intro w hSw; (try dsimp only at hSw); go_simp); (try with_reducible rfl))
              try simp only [Act.put, List.setIfInBounds_toArray, List.set_cons_zero, List.set_cons_succ]
              refine wpAnyH_take (i := 6) (oi := { dst := some 97, op := Op.move (Operand.tmp 12), type := 3, pos := "law.go:133", after := #[{ on := 5, ground := Ground.guard }], guard := some (5, true) }) (v := undef) rfl (by kernel_rfl) (by kernel_rfl) (by kernel_rfl) (fun _ _ _ h => h) (Or.inr ⟨by rfl, rfl⟩) (by assumption) ?_
              try simp only [Act.put, List.setIfInBounds_toArray, List.set_cons_zero, List.set_cons_succ]
              refine wpAnyH_take (i := 7) (oi := { dst := some 98, op := Op.indexAddr 53 (Operand.tmp 3) (Operand.tmp 97), type := 0, pos := "law.go:133", after := #[{ on := 6, ground := Ground.data }, { on := 5, ground := Ground.guard }], guard := some (5, true) }) (v := undef) rfl (by kernel_rfl) (by kernel_rfl) (by kernel_rfl) (fun _ _ _ h => h) (Or.inr ⟨by rfl, rfl⟩) (by assumption) ?_
              try simp only [Act.put, List.setIfInBounds_toArray, List.set_cons_zero, List.set_cons_succ]
              refine wpAnyH_take (i := 8) (oi := { dst := some 99, op := Op.load 22 (Operand.tmp 98), type := 22, pos := "law.go:133", after := #[{ on := 7, ground := Ground.data }, { on := 5, ground := Ground.guard }], guard := some (5, true) }) (v := undef) rfl (by kernel_rfl) (by kernel_rfl) (by kernel_rfl) (fun _ _ _ h => h) (Or.inr ⟨by rfl, rfl⟩) (by assumption) ?_
              try simp only [Act.put, List.setIfInBounds_toArray, List.set_cons_zero, List.set_cons_succ]
              refine wpAnyH_take (i := 9) (oi := { dst := some 100, op := Op.move (Operand.tmp 11), type := 22, pos := "law.go:133", after := #[{ on := 5, ground := Ground.guard }], guard := some (5, true) }) (v := undef) rfl (by kernel_rfl) (by kernel_rfl) (by kernel_rfl) (fun _ _ _ h => h) (Or.inr ⟨by rfl, rfl⟩) (by assumption) ?_
              try simp only [Act.put, List.setIfInBounds_toArray, List.set_cons_zero, List.set_cons_succ]
              refine wpAnyH_take (i := 10) (oi := { dst := some 101, op := Op.binOp BinOp.neq 22 (Operand.tmp 99) (Operand.tmp 100) 22, type := 4, pos := "law.go:133", after := #[{ on := 8, ground := Ground.data }, { on := 9, ground := Ground.data }, { on := 5, ground := Ground.guard }], guard := some (5, true) }) (v := undef) rfl (by kernel_rfl) (by kernel_rfl) (by kernel_rfl) (fun _ _ _ h => h) (Or.inr ⟨by rfl, rfl⟩) (by assumption) ?_
              try simp only [Act.put, List.setIfInBounds_toArray, List.set_cons_zero, List.set_cons_succ]
              refine wpAnyH_take (i := 11) (oi := { dst := some 102, op := Op.pick (Operand.tmp 96) (Operand.tmp 101) (Operand.const (Value.bool false)), type := 4, pos := "law.go:133", after := #[{ on := 5, ground := Ground.data }, { on := 10, ground := Ground.data }], guard := none }) (v := ?_) rfl (by kernel_rfl) (by kernel_rfl) (by kernel_rfl) (fun _ _ _ h => h) (Or.inl ⟨by rfl, ?_⟩) (by assumption) ?_
              rotate_left
              focus ((intro w hSw; (try dsimp only at hSw); go_simp); (try with_reducible rfl))
              try simp only [Act.put, List.setIfInBounds_toArray, List.set_cons_zero, List.set_cons_succ]
              refine wpAnyH_take (i := 12) (oi := { dst := some 103, op := Op.move (Operand.tmp 102), type := 4, pos := "law.go:133", after := #[{ on := 11, ground := Ground.data }, { on := 5, ground := Ground.chain }], guard := none }) (v := ?_) rfl (by kernel_rfl) (by kernel_rfl) (by kernel_rfl) (fun _ _ _ h => h) (Or.inl ⟨by rfl, ?_⟩) (by assumption) ?_
              rotate_left
              focus ((intro w hSw; (try dsimp only at hSw); go_simp); (try with_reducible rfl))
              try simp only [Act.put, List.setIfInBounds_toArray, List.set_cons_zero, List.set_cons_succ]
              refine wpAnyH_take (i := 13) (oi := { dst := some 104, op := Op.move (Operand.tmp 12), type := 3, pos := "law.go:133", after := #[{ on := 12, ground := Ground.guard }], guard := some (12, false) }) (v := ?_) rfl (by kernel_rfl) (by kernel_rfl) (by kernel_rfl) (fun _ _ _ h => h) (Or.inl ⟨by rfl, ?_⟩) (by assumption) ?_
              rotate_left
              focus ((intro w hSw; (try dsimp only at hSw); go_simp); (try with_reducible rfl))
              try simp only [Act.put, List.setIfInBounds_toArray, List.set_cons_zero, List.set_cons_succ]
              refine wpAnyH_take (i := 14) (oi := { dst := some 105, op := Op.indexAddr 53 (Operand.tmp 3) (Operand.tmp 104), type := 0, pos := "law.go:133", after := #[{ on := 13, ground := Ground.data }, { on := 12, ground := Ground.guard }], guard := some (12, false) }) (v := ?_) rfl (by kernel_rfl) (by kernel_rfl) (by kernel_rfl) (fun _ _ _ h => h) (Or.inl ⟨by rfl, ?_⟩) (by assumption) ?_
              rotate_left
              focus ((intro w hSw; (try dsimp only at hSw); go_simp); (try with_reducible rfl))
              try simp only [Act.put, List.setIfInBounds_toArray, List.set_cons_zero, List.set_cons_succ]
              refine wpAnyH_take (i := 15) (oi := { dst := some 106, op := Op.load 22 (Operand.tmp 105), type := 22, pos := "law.go:133", after := #[{ on := 14, ground := Ground.data }, { on := 12, ground := Ground.guard }], guard := some (12, false) }) (v := ?_) rfl (by kernel_rfl) (by kernel_rfl) (by kernel_rfl) (fun _ _ _ h => h) (Or.inl ⟨by rfl, ?_⟩) (by assumption) ?_
              rotate_left
              focus ((intro w hSw; (try dsimp only at hSw); go_simp); (try with_reducible rfl))
              try simp only [Act.put, List.setIfInBounds_toArray, List.set_cons_zero, List.set_cons_succ]
              refine wpAnyH_take (i := 16) (oi := { dst := some 107, op := Op.move (Operand.tmp 12), type := 3, pos := "law.go:133", after := #[{ on := 12, ground := Ground.guard }], guard := some (12, false) }) (v := ?_) rfl (by kernel_rfl) (by kernel_rfl) (by kernel_rfl) (fun _ _ _ h => h) (Or.inl ⟨by rfl, ?_⟩) (by assumption) ?_
              rotate_left
              focus ((intro w hSw; (try dsimp only at hSw); go_simp); (try with_reducible rfl))
              try simp only [Act.put, List.setIfInBounds_toArray, List.set_cons_zero, List.set_cons_succ]
              refine wpAnyH_take (i := 17) (oi := { dst := some 108, op := Op.indexAddr 53 (Operand.tmp 4) (Operand.tmp 107), type := 0, pos := "law.go:133", after := #[{ on := 16, ground := Ground.data }, { on := 12, ground := Ground.guard }], guard := some (12, false) }) (v := ?_) rfl (by kernel_rfl) (by kernel_rfl) (by kernel_rfl) (fun _ _ _ h => h) (Or.inl ⟨by rfl, ?_⟩) (by assumption) ?_
              rotate_left
              focus ((intro w hSw; (try dsimp only at hSw); go_simp); (try with_reducible rfl))
              try simp only [Act.put, List.setIfInBounds_toArray, List.set_cons_zero, List.set_cons_succ]
              refine wpAnyH_take (i := 18) (oi := { dst := some 109, op := Op.load 22 (Operand.tmp 108), type := 22, pos := "law.go:133", after := #[{ on := 17, ground := Ground.data }, { on := 12, ground := Ground.guard }], guard := some (12, false) }) (v := ?_) rfl (by kernel_rfl) (by kernel_rfl) (by kernel_rfl) (fun _ _ _ h => h) (Or.inl ⟨by rfl, ?_⟩) (by assumption) ?_
              rotate_left
              focus ((intro w hSw; (try dsimp only at hSw); go_simp); (try with_reducible rfl))
              try simp only [Act.put, List.setIfInBounds_toArray, List.set_cons_zero, List.set_cons_succ]
              refine wpAnyH_take (i := 19) (oi := { dst := some 110, op := Op.binOp BinOp.neq 22 (Operand.tmp 106) (Operand.tmp 109) 22, type := 4, pos := "law.go:133", after := #[{ on := 15, ground := Ground.data }, { on := 18, ground := Ground.data }, { on := 12, ground := Ground.guard }], guard := some (12, false) }) (v := ?_) rfl (by kernel_rfl) (by kernel_rfl) (by kernel_rfl) (fun _ _ _ h => h) (Or.inl ⟨by rfl, ?_⟩) (by assumption) ?_
              rotate_left
              focus ((intro w hSw; (try dsimp only at hSw); go_simp); (try with_reducible rfl))
              try simp only [Act.put, List.setIfInBounds_toArray, List.set_cons_zero, List.set_cons_succ]
              refine wpAnyH_take (i := 20) (oi := { dst := some 111, op := Op.pick (Operand.tmp 103) (Operand.const (Value.bool true)) (Operand.tmp 110), type := 4, pos := "law.go:133", after := #[{ on := 12, ground := Ground.data }, { on := 19, ground := Ground.data }], guard := none }) (v := ?_) rfl (by kernel_rfl) (by kernel_rfl) (by kernel_rfl) (fun _ _ _ h => h) (Or.inl ⟨by rfl, ?_⟩) (by assumption) ?_
              rotate_left
              focus ((intro w hSw; (try dsimp only at hSw); go_simp); (try with_reducible rfl))
              try simp only [Act.put, List.setIfInBounds_toArray, List.set_cons_zero, List.set_cons_succ]
              refine wpAnyH_done (by kernel_rfl) ?_ _
              clear hHeld
              clear l0 m0
              go_wp2_with fail
              exact ⟨⟨z + 1, by omega, by omega, by go_num, by first | exact HM.out.drew | exact HM.out⟩, by simp [intOf]; omega⟩
            · exact absurd e2 e1
          · obtain rfl : z = 5 := by omega
            have HM := Lib.hid hM
            clear hM
            go_upto_region 20 with fail
            rcases HSG.out with ⟨h0, e4, e3⟩ | ⟨h0, e3, e4⟩
            · have l3 := HM.out.l.cell (upTo_all A (z := 3) (by omega) (by omega))
              rw [e3] at l3
              have l4 := HM.out.l.cell (upTo_all A (z := 4) (by omega) (by omega))
              rw [e4] at l4
              clear e3 e4
              refine wp_region_held_drew (S := fun w' => w'.cell? ⟨bl, 3, none⟩ = some (.string (cS lo)) ∧ w'.cell? ⟨bl, 4, none⟩ = some (.string (cS lo))) (by kernel_rfl) (by (try dsimp only); go_keep) (fun hHeld => ?_)
              refine wpAnyH_take (i := 0) (oi := { dst := some 112, op := Op.indexAddr 53 (Operand.tmp 3) (Operand.const (Value.int IntKind.i64 3)), type := 0, pos := "law.go:137", after := #[], guard := none }) (v := ?_) rfl (by kernel_rfl) (by kernel_rfl) (by kernel_rfl) (fun _ _ _ h => h) (Or.inl ⟨by rfl, ?_⟩) (by assumption) ?_
              rotate_left
              focus ((intro w hSw; (try dsimp only at hSw); go_simp); (try with_reducible rfl))
              try simp only [Act.put, List.setIfInBounds_toArray, List.set_cons_zero, List.set_cons_succ]
              refine wpAnyH_take (i := 2) (oi := { dst := some 114, op := Op.indexAddr 53 (Operand.tmp 3) (Operand.const (Value.int IntKind.i64 4)), type := 0, pos := "law.go:137", after := #[{ on := 4, ground := Ground.gcOnly Departure.lateStores }], guard := none }) (v := ?_) rfl (by kernel_rfl) (by kernel_rfl) (by kernel_rfl) (fun _ _ _ h => h) (Or.inl ⟨by rfl, ?_⟩) (by assumption) ?_
              rotate_left
              focus ((intro w hSw; (try dsimp only at hSw); go_simp); (try with_reducible rfl))
              try simp only [Act.put, List.setIfInBounds_toArray, List.set_cons_zero, List.set_cons_succ]
              refine wpAnyH_take (i := 1) (oi := { dst := some 113, op := Op.load 22 (Operand.tmp 112), type := 22, pos := "law.go:137", after := #[{ on := 0, ground := Ground.data }], guard := none }) (v := ?_) rfl (by kernel_rfl) (by kernel_rfl) (by kernel_rfl) (fun _ _ _ h => h) (Or.inl ⟨by rfl, ?_⟩) (by assumption) ?_
              rotate_left
              focus ((intro w hSw; (try dsimp only at hSw); go_simp); (try with_reducible rfl))
              try simp only [Act.put, List.setIfInBounds_toArray, List.set_cons_zero, List.set_cons_succ]
              refine wpAnyH_take (i := 3) (oi := { dst := some 115, op := Op.load 22 (Operand.tmp 114), type := 22, pos := "law.go:137", after := #[{ on := 2, ground := Ground.data }, { on := 4, ground := Ground.gcOnly Departure.lateStores }], guard := none }) (v := ?_) rfl (by kernel_rfl) (by kernel_rfl) (by kernel_rfl) (fun _ _ _ h => h) (Or.inl ⟨by rfl, ?_⟩) (by assumption) ?_
              rotate_left
              focus ((intro w hSw; (try dsimp only at hSw); go_simp); (try with_reducible rfl))
              try simp only [Act.put, List.setIfInBounds_toArray, List.set_cons_zero, List.set_cons_succ]
              refine wpAnyH_take (i := 4) (oi := { dst := some 13, op := Op.assign (Operand.tmp 113), type := 22, pos := "law.go:137", after := #[{ on := 1, ground := Ground.data }, { on := 0, ground := Ground.phase }, { on := 1, ground := Ground.phase }, { on := 2, ground := Ground.textOnly Departure.lateStores }, { on := 3, ground := Ground.textOnly Departure.lateStores }], guard := none }) (v := ?_) rfl (by kernel_rfl) (by kernel_rfl) (by kernel_rfl) (fun _ _ _ h => h) (Or.inl ⟨by rfl, ?_⟩) (by assumption) ?_
              rotate_left
              focus ((intro w hSw; (try dsimp only at hSw); go_simp); (try with_reducible rfl))
              try simp only [Act.put, List.setIfInBounds_toArray, List.set_cons_zero, List.set_cons_succ]
              refine wpAnyH_take (i := 5) (oi := { dst := some 14, op := Op.assign (Operand.tmp 115), type := 22, pos := "law.go:137", after := #[{ on := 3, ground := Ground.data }, { on := 4, ground := Ground.chain }, { on := 0, ground := Ground.phase }, { on := 1, ground := Ground.phase }, { on := 2, ground := Ground.phase }, { on := 3, ground := Ground.phase }, { on := 4, ground := Ground.phase }], guard := none }) (v := ?_) rfl (by kernel_rfl) (by kernel_rfl) (by kernel_rfl) (fun _ _ _ h => h) (Or.inl ⟨by rfl, ?_⟩) (by assumption) ?_
              rotate_left
              focus ((intro w hSw; (try dsimp only at hSw); go_simp); (try with_reducible rfl))
              try simp only [Act.put, List.setIfInBounds_toArray, List.set_cons_zero, List.set_cons_succ]
              refine wpAnyH_done (by kernel_rfl) ?_ _
              clear hHeld
              clear l3 l4
              replace HM := Lib.hid HM.out.drew
              go_upto_region 21 with fail
              obtain ⟨fx, fy, _, _⟩ := HM.out.f.cells
              refine wp_region_held_drew (S := fun w' => w'.cell? ⟨w.heap.size, 0, none⟩ = some (.string fn) ∧ w'.cell? ⟨w.heap.size, 1, none⟩ = some (.string fd)) (by kernel_rfl) (by (try dsimp only); go_keep) (fun hHeld => ?_)
              refine wpAnyH_take (i := 0) (oi := { dst := some 116, op := Op.load 24 (Operand.tmp 1), type := 24, pos := "law.go:138", after := #[], guard := none }) (v := ?_) rfl (by kernel_rfl) (by kernel_rfl) (by kernel_rfl) (fun _ _ _ h => h) (Or.inl ⟨by rfl, ?_⟩) (by assumption) ?_
              rotate_left
              focus ((intro w hSw; (try dsimp only at hSw); go_simp); (try with_reducible rfl))
              try simp only [Act.put, List.setIfInBounds_toArray, List.set_cons_zero, List.set_cons_succ]
              refine wpAnyH_ready (rs := [1]) (by kernel_rfl) (by simp) ?_
              refine AllReadyH.cons (o := { dst := some 117, op := Op.call { callee := Callee.value (Operand.func 32), args := #[Operand.const (Value.int IntKind.i64 0), Operand.const (Value.int IntKind.i64 1)], argTypes := #[3, 3] }, type := 24, pos := "law.go:138", after := #[], guard := none }) rfl (fun K hK => ?_) AllReadyH.nil
              clear hHeld
              go_simp
              with_reducible refine Calls.mono (ratio_0_1.call _ (by first | exact HM.out.g | exact HM.out.drew.g | exact (HM.out.drewN _).g)) ?_
              rintro e WX ⟨rfl, hB1⟩
              have HM2 : StM w WX fn fd bl (upTo A 7) (upTo B 7) := (by first | exact HM.out.next hB1 | exact HM.out.next1 hB1 | exact HM.out.nextD hB1)
              replace HM := Lib.hid HM2
              clear hB1 HM2
              clear fx fy
              obtain ⟨fx, fy, _, _⟩ := HM.out.f.cells
              go_wp2_with fail
              refine hK.out _ _ (by (try dsimp only); go_keep) (fun hHeld => ?_)
              clear hK K
              try simp only [Act.put, List.setIfInBounds_toArray, List.set_cons_zero, List.set_cons_succ]
              refine wpAnyH_ready (rs := [2]) (by kernel_rfl) (by simp) ?_
              refine AllReadyH.cons (o := { dst := some 118, op := Op.call { callee := Callee.value (Operand.func 29), args := #[Operand.tmp 116, Operand.tmp 117], argTypes := #[24, 24] }, type := 3, pos := "law.go:138", after := #[{ on := 0, ground := Ground.data }, { on := 1, ground := Ground.data }, { on := 1, ground := Ground.chain }], guard := none }) rfl (fun K hK => ?_) AllReadyH.nil
              clear hHeld
              go_simp
              with_reducible refine Calls.mono (fCompare_v (c := c0) _ (by first | exact HM.out.g | exact HM.out.drew.g | exact (HM.out.drewN _).g) (HF.out.arg (by decide)) Val.zero HC0.out) ?_
              rintro e WX ⟨rfl, hB1⟩
              have HM2 : StM w WX fn fd bl (upTo A 7) (upTo B 7) := (by first | exact HM.out.next hB1 | exact HM.out.next1 hB1 | exact HM.out.nextD hB1)
              replace HM := Lib.hid HM2
              clear hB1 HM2
              clear fx fy
              obtain ⟨fx, fy, _, _⟩ := HM.out.f.cells
              go_wp2_with fail
              refine hK.out _ _ (by (try dsimp only); go_keep) (fun hHeld => ?_)
              clear hK K
              try simp only [Act.put, List.setIfInBounds_toArray, List.set_cons_zero, List.set_cons_succ]
              refine wpAnyH_take (i := 3) (oi := { dst := some 119, op := Op.binOp BinOp.lss 3 (Operand.tmp 118) (Operand.const (Value.int IntKind.i64 0)) 3, type := 4, pos := "law.go:138", after := #[{ on := 2, ground := Ground.data }], guard := none }) (v := ?_) rfl (by kernel_rfl) (by kernel_rfl) (by kernel_rfl) (fun _ _ _ h => h) (Or.inl ⟨by rfl, ?_⟩) (by assumption) ?_
              rotate_left
              focus ((intro w hSw; (try dsimp only at hSw); go_simp); (try with_reducible rfl))
              try simp only [Act.put, List.setIfInBounds_toArray, List.set_cons_zero, List.set_cons_succ]
              refine wpAnyH_done (by kernel_rfl) ?_ _
              clear hHeld
              clear fx fy
              go_wp2_with fail
              refine Calls.mono (Ret.call HAW.out _ HM.out.g) ?_
              rintro _ w9 ⟨rfl, hB⟩
              have hM := HM.out.next hB
              clear hB HM
              go_wp2_with fail
              go_ret
              exact ⟨rfl, hM.below⟩
            · have l3 := HM.out.l.cell (upTo_all A (z := 3) (by omega) (by omega))
              rw [e3] at l3
              have l4 := HM.out.l.cell (upTo_all A (z := 4) (by omega) (by omega))
              rw [e4] at l4
              clear e3 e4
              refine wp_region_held_drew (S := fun w' => w'.cell? ⟨bl, 3, none⟩ = some (.string (cS lo)) ∧ w'.cell? ⟨bl, 4, none⟩ = some (.string (cS lo))) (by kernel_rfl) (by (try dsimp only); go_keep) (fun hHeld => ?_)
              refine wpAnyH_take (i := 0) (oi := { dst := some 112, op := Op.indexAddr 53 (Operand.tmp 3) (Operand.const (Value.int IntKind.i64 3)), type := 0, pos := "law.go:137", after := #[], guard := none }) (v := ?_) rfl (by kernel_rfl) (by kernel_rfl) (by kernel_rfl) (fun _ _ _ h => h) (Or.inl ⟨by rfl, ?_⟩) (by assumption) ?_
              rotate_left
              focus ((intro w hSw; (try dsimp only at hSw); go_simp); (try with_reducible rfl))
              try simp only [Act.put, List.setIfInBounds_toArray, List.set_cons_zero, List.set_cons_succ]
              refine wpAnyH_take (i := 2) (oi := { dst := some 114, op := Op.indexAddr 53 (Operand.tmp 3) (Operand.const (Value.int IntKind.i64 4)), type := 0, pos := "law.go:137", after := #[{ on := 4, ground := Ground.gcOnly Departure.lateStores }], guard := none }) (v := ?_) rfl (by kernel_rfl) (by kernel_rfl) (by kernel_rfl) (fun _ _ _ h => h) (Or.inl ⟨by rfl, ?_⟩) (by assumption) ?_
              rotate_left
              focus ((intro w hSw; (try dsimp only at hSw); go_simp); (try with_reducible rfl))
              try simp only [Act.put, List.setIfInBounds_toArray, List.set_cons_zero, List.set_cons_succ]
              refine wpAnyH_take (i := 1) (oi := { dst := some 113, op := Op.load 22 (Operand.tmp 112), type := 22, pos := "law.go:137", after := #[{ on := 0, ground := Ground.data }], guard := none }) (v := ?_) rfl (by kernel_rfl) (by kernel_rfl) (by kernel_rfl) (fun _ _ _ h => h) (Or.inl ⟨by rfl, ?_⟩) (by assumption) ?_
              rotate_left
              focus ((intro w hSw; (try dsimp only at hSw); go_simp); (try with_reducible rfl))
              try simp only [Act.put, List.setIfInBounds_toArray, List.set_cons_zero, List.set_cons_succ]
              refine wpAnyH_take (i := 3) (oi := { dst := some 115, op := Op.load 22 (Operand.tmp 114), type := 22, pos := "law.go:137", after := #[{ on := 2, ground := Ground.data }, { on := 4, ground := Ground.gcOnly Departure.lateStores }], guard := none }) (v := ?_) rfl (by kernel_rfl) (by kernel_rfl) (by kernel_rfl) (fun _ _ _ h => h) (Or.inl ⟨by rfl, ?_⟩) (by assumption) ?_
              rotate_left
              focus ((intro w hSw; (try dsimp only at hSw); go_simp); (try with_reducible rfl))
              try simp only [Act.put, List.setIfInBounds_toArray, List.set_cons_zero, List.set_cons_succ]
              refine wpAnyH_take (i := 4) (oi := { dst := some 13, op := Op.assign (Operand.tmp 113), type := 22, pos := "law.go:137", after := #[{ on := 1, ground := Ground.data }, { on := 0, ground := Ground.phase }, { on := 1, ground := Ground.phase }, { on := 2, ground := Ground.textOnly Departure.lateStores }, { on := 3, ground := Ground.textOnly Departure.lateStores }], guard := none }) (v := ?_) rfl (by kernel_rfl) (by kernel_rfl) (by kernel_rfl) (fun _ _ _ h => h) (Or.inl ⟨by rfl, ?_⟩) (by assumption) ?_
              rotate_left
              focus ((intro w hSw; (try dsimp only at hSw); go_simp); (try with_reducible rfl))
              try simp only [Act.put, List.setIfInBounds_toArray, List.set_cons_zero, List.set_cons_succ]
              refine wpAnyH_take (i := 5) (oi := { dst := some 14, op := Op.assign (Operand.tmp 115), type := 22, pos := "law.go:137", after := #[{ on := 3, ground := Ground.data }, { on := 4, ground := Ground.chain }, { on := 0, ground := Ground.phase }, { on := 1, ground := Ground.phase }, { on := 2, ground := Ground.phase }, { on := 3, ground := Ground.phase }, { on := 4, ground := Ground.phase }], guard := none }) (v := ?_) rfl (by kernel_rfl) (by kernel_rfl) (by kernel_rfl) (fun _ _ _ h => h) (Or.inl ⟨by rfl, ?_⟩) (by assumption) ?_
              rotate_left
              focus ((intro w hSw; (try dsimp only at hSw); go_simp); (try with_reducible rfl))
              try simp only [Act.put, List.setIfInBounds_toArray, List.set_cons_zero, List.set_cons_succ]
              refine wpAnyH_done (by kernel_rfl) ?_ _
              clear hHeld
              clear l3 l4
              replace HM := Lib.hid HM.out.drew
              go_upto_region 21 with fail
              obtain ⟨fx, fy, _, _⟩ := HM.out.f.cells
              refine wp_region_held_drew (S := fun w' => w'.cell? ⟨w.heap.size, 0, none⟩ = some (.string fn) ∧ w'.cell? ⟨w.heap.size, 1, none⟩ = some (.string fd)) (by kernel_rfl) (by (try dsimp only); go_keep) (fun hHeld => ?_)
              refine wpAnyH_take (i := 0) (oi := { dst := some 116, op := Op.load 24 (Operand.tmp 1), type := 24, pos := "law.go:138", after := #[], guard := none }) (v := ?_) rfl (by kernel_rfl) (by kernel_rfl) (by kernel_rfl) (fun _ _ _ h => h) (Or.inl ⟨by rfl, ?_⟩) (by assumption) ?_
              rotate_left
              focus ((intro w hSw; (try dsimp only at hSw); go_simp); (try with_reducible rfl))
              try simp only [Act.put, List.setIfInBounds_toArray, List.set_cons_zero, List.set_cons_succ]
              refine wpAnyH_ready (rs := [1]) (by kernel_rfl) (by simp) ?_
              refine AllReadyH.cons (o := { dst := some 117, op := Op.call { callee := Callee.value (Operand.func 32), args := #[Operand.const (Value.int IntKind.i64 0), Operand.const (Value.int IntKind.i64 1)], argTypes := #[3, 3] }, type := 24, pos := "law.go:138", after := #[], guard := none }) rfl (fun K hK => ?_) AllReadyH.nil
              clear hHeld
              go_simp
              with_reducible refine Calls.mono (ratio_0_1.call _ (by first | exact HM.out.g | exact HM.out.drew.g | exact (HM.out.drewN _).g)) ?_
              rintro e WX ⟨rfl, hB1⟩
              have HM2 : StM w WX fn fd bl (upTo A 7) (upTo B 7) := (by first | exact HM.out.next hB1 | exact HM.out.next1 hB1 | exact HM.out.nextD hB1)
              replace HM := Lib.hid HM2
              clear hB1 HM2
              clear fx fy
              obtain ⟨fx, fy, _, _⟩ := HM.out.f.cells
              go_wp2_with fail
              refine hK.out _ _ (by (try dsimp only); go_keep) (fun hHeld => ?_)
              clear hK K
              try simp only [Act.put, List.setIfInBounds_toArray, List.set_cons_zero, List.set_cons_succ]
              refine wpAnyH_ready (rs := [2]) (by kernel_rfl) (by simp) ?_
              refine AllReadyH.cons (o := { dst := some 118, op := Op.call { callee := Callee.value (Operand.func 29), args := #[Operand.tmp 116, Operand.tmp 117], argTypes := #[24, 24] }, type := 3, pos := "law.go:138", after := #[{ on := 0, ground := Ground.data }, { on := 1, ground := Ground.data }, { on := 1, ground := Ground.chain }], guard := none }) rfl (fun K hK => ?_) AllReadyH.nil
              clear hHeld
              go_simp
              with_reducible refine Calls.mono (fCompare_v (c := c0) _ (by first | exact HM.out.g | exact HM.out.drew.g | exact (HM.out.drewN _).g) (HF.out.arg (by decide)) Val.zero HC0.out) ?_
              rintro e WX ⟨rfl, hB1⟩
              have HM2 : StM w WX fn fd bl (upTo A 7) (upTo B 7) := (by first | exact HM.out.next hB1 | exact HM.out.next1 hB1 | exact HM.out.nextD hB1)
              replace HM := Lib.hid HM2
              clear hB1 HM2
              clear fx fy
              obtain ⟨fx, fy, _, _⟩ := HM.out.f.cells
              go_wp2_with fail
              refine hK.out _ _ (by (try dsimp only); go_keep) (fun hHeld => ?_)
              clear hK K
              try simp only [Act.put, List.setIfInBounds_toArray, List.set_cons_zero, List.set_cons_succ]
              refine wpAnyH_take (i := 3) (oi := { dst := some 119, op := Op.binOp BinOp.lss 3 (Operand.tmp 118) (Operand.const (Value.int IntKind.i64 0)) 3, type := 4, pos := "law.go:138", after := #[{ on := 2, ground := Ground.data }], guard := none }) (v := ?_) rfl (by kernel_rfl) (by kernel_rfl) (by kernel_rfl) (fun _ _ _ h => h) (Or.inl ⟨by rfl, ?_⟩) (by assumption) ?_
              rotate_left
              focus ((intro w hSw; (try dsimp only at hSw); go_simp); (try with_reducible rfl))
              try simp only [Act.put, List.setIfInBounds_toArray, List.set_cons_zero, List.set_cons_succ]
              refine wpAnyH_done (by kernel_rfl) ?_ _
              clear hHeld
              clear fx fy
              go_wp2_with fail
              refine Calls.mono (Ret.call HAW.out _ HM.out.g) ?_
              rintro _ w9 ⟨rfl, hB⟩
              have hM := HM.out.next hB
              clear hB HM
              go_wp2_with fail
              go_ret
              exact ⟨rfl, hM.below⟩
      · have HLH2 := Lib.hid hadd
        have hlh : ((cS lo).toList == (cS hi).toList) = false := by rw [beq_toList]; exact decide_eq_false (fun e => hne (by rw [← vS_cS hi, ← e, vS_cS]))
        clear hne hadd
        obtain ⟨fx, fy, _, _⟩ := HM.out.f.cells
        have m6 := HM.out.m.cell (upTo_all B (z := 6) (by omega) (by omega))
        rw [HB6.out] at m6
        have m5 := HM.out.m.cell (upTo_all B (z := 5) (by omega) (by omega))
        rw [HB5.out] at m5
        refine wp_region_held_drew (S := fun w' => w'.cell? ⟨w.heap.size, 0, none⟩ = some (.string fn) ∧ w'.cell? ⟨w.heap.size, 1, none⟩ = some (.string fd) ∧ w'.cell? ⟨bl + 1, 6, none⟩ = some (.string (cS lo)) ∧ w'.cell? ⟨bl + 1, 5, none⟩ = some (.string (cS hi))) (by kernel_rfl) (by (try dsimp only); go_keep) (fun hHeld => ?_)
        refine wpAnyH_take (i := 0) (oi := { dst := some 52, op := Op.move (Operand.tmp 10), type := 22, pos := "law.go:129", after := #[], guard := none }) (v := ?_) rfl (by kernel_rfl) (by kernel_rfl) (by kernel_rfl) (fun _ _ _ h => h) (Or.inl ⟨by rfl, ?_⟩) (by assumption) ?_
        rotate_left
        focus ((intro w hSw; (try dsimp only at hSw); go_simp); (try with_reducible rfl))
        try simp only [Act.put, List.setIfInBounds_toArray, List.set_cons_zero, List.set_cons_succ]
        refine wpAnyH_take (i := 2) (oi := { dst := some 54, op := Op.load 24 (Operand.tmp 1), type := 24, pos := "law.go:129", after := #[], guard := none }) (v := ?_) rfl (by kernel_rfl) (by kernel_rfl) (by kernel_rfl) (fun _ _ _ h => h) (Or.inl ⟨by rfl, ?_⟩) (by assumption) ?_
        rotate_left
        focus ((intro w hSw; (try dsimp only at hSw); go_simp); (try with_reducible rfl))
        try simp only [Act.put, List.setIfInBounds_toArray, List.set_cons_zero, List.set_cons_succ]
        refine wpAnyH_ready (rs := [1]) (by kernel_rfl) (by simp) ?_
        refine AllReadyH.cons (o := { dst := some 53, op := Op.call { callee := Callee.value (Operand.func 31), args := #[Operand.tmp 52], argTypes := #[22] }, type := 24, pos := "law.go:129", after := #[{ on := 0, ground := Ground.data }], guard := none }) rfl (fun K hK => ?_) AllReadyH.nil
        clear hHeld
        go_simp
        with_reducible refine Calls.mono (fOf_v (p := lo) _ (by first | exact HM.out.g | exact HM.out.drew.g | exact (HM.out.drewN _).g) HSL.out (vS_cS _)) ?_
        rintro e WX ⟨rfl, hB1⟩
        have HM2 : StM w WX fn fd bl (upTo A 7) (upTo B 7) := (by first | exact HM.out.next hB1 | exact HM.out.next1 hB1 | exact HM.out.nextD hB1)
        replace HM := Lib.hid HM2
        clear hB1 HM2
        clear fx fy m6 m5
        obtain ⟨fx, fy, _, _⟩ := HM.out.f.cells
        have m6 := HM.out.m.cell (upTo_all B (z := 6) (by omega) (by omega))
        rw [HB6.out] at m6
        have m5 := HM.out.m.cell (upTo_all B (z := 5) (by omega) (by omega))
        rw [HB5.out] at m5
        go_wp2_with fail
        refine hK.out _ _ (by (try dsimp only); go_keep) (fun hHeld => ?_)
        clear hK K
        try simp only [Act.put, List.setIfInBounds_toArray, List.set_cons_zero, List.set_cons_succ]
        refine wpAnyH_ready (rs := [3]) (by kernel_rfl) (by simp) ?_
        refine AllReadyH.cons (o := { dst := some 55, op := Op.call { callee := Callee.value (Operand.func 29), args := #[Operand.tmp 53, Operand.tmp 54], argTypes := #[24, 24] }, type := 3, pos := "law.go:129", after := #[{ on := 1, ground := Ground.data }, { on := 2, ground := Ground.data }, { on := 1, ground := Ground.chain }], guard := none }) rfl (fun K hK => ?_) AllReadyH.nil
        clear hHeld
        go_simp
        with_reducible refine Calls.mono (fCompare_v (c := c1) _ (by first | exact HM.out.g | exact HM.out.drew.g | exact (HM.out.drewN _).g) HVL.out (HF.out.arg (by decide)) HC1.out) ?_
        rintro e WX ⟨rfl, hB1⟩
        have HM2 : StM w WX fn fd bl (upTo A 7) (upTo B 7) := (by first | exact HM.out.next hB1 | exact HM.out.next1 hB1 | exact HM.out.nextD hB1)
        replace HM := Lib.hid HM2
        clear hB1 HM2
        clear fx fy m6 m5
        obtain ⟨fx, fy, _, _⟩ := HM.out.f.cells
        have m6 := HM.out.m.cell (upTo_all B (z := 6) (by omega) (by omega))
        rw [HB6.out] at m6
        have m5 := HM.out.m.cell (upTo_all B (z := 5) (by omega) (by omega))
        rw [HB5.out] at m5
        go_wp2_with fail
        refine hK.out _ _ (by (try dsimp only); go_keep) (fun hHeld => ?_)
        clear hK K
        try simp only [Act.put, List.setIfInBounds_toArray, List.set_cons_zero, List.set_cons_succ]
        refine wpAnyH_take (i := 4) (oi := { dst := some 56, op := Op.binOp BinOp.gtr 3 (Operand.tmp 55) (Operand.const (Value.int IntKind.i64 0)) 3, type := 4, pos := "law.go:129", after := #[{ on := 3, ground := Ground.data }], guard := none }) (v := ?_) rfl (by kernel_rfl) (by kernel_rfl) (by kernel_rfl) (fun _ _ _ h => h) (Or.inl ⟨by rfl, ?_⟩) (by assumption) ?_
        rotate_left
        focus ((intro w hSw; (try dsimp only at hSw); go_simp); (try with_reducible rfl))
        try simp only [Act.put, List.setIfInBounds_toArray, List.set_cons_zero, List.set_cons_succ]
        rw [HD1.out]
        refine wpAnyH_take (i := 5) (oi := { dst := some 57, op := Op.move (Operand.tmp 56), type := 4, pos := "law.go:129", after := #[{ on := 4, ground := Ground.data }, { on := 3, ground := Ground.chain }], guard := none }) (v := ?_) rfl (by kernel_rfl) (by kernel_rfl) (by kernel_rfl) (fun _ _ _ h => h) (Or.inl ⟨by rfl, ?_⟩) (by assumption) ?_
        rotate_left
        focus ((intro w hSw; (try dsimp only at hSw); go_simp); (try with_reducible rfl))
        try simp only [Act.put, List.setIfInBounds_toArray, List.set_cons_zero, List.set_cons_succ]
        refine wpAnyH_take (i := 6) (oi := { dst := some 58, op := Op.load 24 (Operand.tmp 1), type := 24, pos := "law.go:129", after := #[{ on := 5, ground := Ground.guard }], guard := some (5, false) }) (v := ?_) rfl (by kernel_rfl) (by kernel_rfl) (by kernel_rfl) (fun _ _ _ h => h) (Or.inl ⟨by rfl, ?_⟩) (by assumption) ?_
        rotate_left
        focus ((intro w hSw; (try dsimp only at hSw); go_simp); (try with_reducible rfl))
        try simp only [Act.put, List.setIfInBounds_toArray, List.set_cons_zero, List.set_cons_succ]
        refine wpAnyH_take (i := 7) (oi := { dst := some 59, op := Op.move (Operand.tmp 11), type := 22, pos := "law.go:129", after := #[{ on := 5, ground := Ground.guard }], guard := some (5, false) }) (v := ?_) rfl (by kernel_rfl) (by kernel_rfl) (by kernel_rfl) (fun _ _ _ h => h) (Or.inl ⟨by rfl, ?_⟩) (by assumption) ?_
        rotate_left
        focus ((intro w hSw; (try dsimp only at hSw); go_simp); (try with_reducible rfl))
        try simp only [Act.put, List.setIfInBounds_toArray, List.set_cons_zero, List.set_cons_succ]
        refine wpAnyH_ready (rs := [8]) (by kernel_rfl) (by simp) ?_
        refine AllReadyH.cons (o := { dst := some 60, op := Op.call { callee := Callee.value (Operand.func 31), args := #[Operand.tmp 59], argTypes := #[22] }, type := 24, pos := "law.go:129", after := #[{ on := 7, ground := Ground.data }, { on := 5, ground := Ground.chain }, { on := 5, ground := Ground.guard }], guard := some (5, false) }) rfl (fun K hK => ?_) AllReadyH.nil
        clear hHeld
        go_simp
        with_reducible refine Calls.mono (fOf_v (p := hi) _ (by first | exact HM.out.g | exact HM.out.drew.g | exact (HM.out.drewN _).g) HSH.out (vS_cS _)) ?_
        rintro e WX ⟨rfl, hB1⟩
        have HM2 : StM w WX fn fd bl (upTo A 7) (upTo B 7) := (by first | exact HM.out.next hB1 | exact HM.out.next1 hB1 | exact HM.out.nextD hB1)
        replace HM := Lib.hid HM2
        clear hB1 HM2
        clear fx fy m6 m5
        obtain ⟨fx, fy, _, _⟩ := HM.out.f.cells
        have m6 := HM.out.m.cell (upTo_all B (z := 6) (by omega) (by omega))
        rw [HB6.out] at m6
        have m5 := HM.out.m.cell (upTo_all B (z := 5) (by omega) (by omega))
        rw [HB5.out] at m5
        go_wp2_with fail
        refine hK.out _ _ (by (try dsimp only); go_keep) (fun hHeld => ?_)
        clear hK K
        try simp only [Act.put, List.setIfInBounds_toArray, List.set_cons_zero, List.set_cons_succ]
        refine wpAnyH_ready (rs := [9]) (by kernel_rfl) (by simp) ?_
        refine AllReadyH.cons (o := { dst := some 61, op := Op.call { callee := Callee.value (Operand.func 29), args := #[Operand.tmp 58, Operand.tmp 60], argTypes := #[24, 24] }, type := 3, pos := "law.go:129", after := #[{ on := 6, ground := Ground.data }, { on := 8, ground := Ground.data }, { on := 8, ground := Ground.chain }, { on := 5, ground := Ground.guard }], guard := some (5, false) }) rfl (fun K hK => ?_) AllReadyH.nil
        clear hHeld
        go_simp
        with_reducible refine Calls.mono (fCompare_v (c := c2) _ (by first | exact HM.out.g | exact HM.out.drew.g | exact (HM.out.drewN _).g) (HF.out.arg (by decide)) HVH.out HC2.out) ?_
        rintro e WX ⟨rfl, hB1⟩
        have HM2 : StM w WX fn fd bl (upTo A 7) (upTo B 7) := (by first | exact HM.out.next hB1 | exact HM.out.next1 hB1 | exact HM.out.nextD hB1)
        replace HM := Lib.hid HM2
        clear hB1 HM2
        clear fx fy m6 m5
        obtain ⟨fx, fy, _, _⟩ := HM.out.f.cells
        have m6 := HM.out.m.cell (upTo_all B (z := 6) (by omega) (by omega))
        rw [HB6.out] at m6
        have m5 := HM.out.m.cell (upTo_all B (z := 5) (by omega) (by omega))
        rw [HB5.out] at m5
        go_wp2_with fail
        refine hK.out _ _ (by (try dsimp only); go_keep) (fun hHeld => ?_)
        clear hK K
        try simp only [Act.put, List.setIfInBounds_toArray, List.set_cons_zero, List.set_cons_succ]
        refine wpAnyH_take (i := 10) (oi := { dst := some 62, op := Op.binOp BinOp.gtr 3 (Operand.tmp 61) (Operand.const (Value.int IntKind.i64 0)) 3, type := 4, pos := "law.go:129", after := #[{ on := 9, ground := Ground.data }, { on := 5, ground := Ground.guard }], guard := some (5, false) }) (v := ?_) rfl (by kernel_rfl) (by kernel_rfl) (by kernel_rfl) (fun _ _ _ h => h) (Or.inl ⟨by rfl, ?_⟩) (by assumption) ?_
        rotate_left
        focus ((intro w hSw; (try dsimp only at hSw); go_simp); (try with_reducible rfl))
        try simp only [Act.put, List.setIfInBounds_toArray, List.set_cons_zero, List.set_cons_succ]
        rw [HD2.out]
        refine wpAnyH_take (i := 11) (oi := { dst := some 63, op := Op.pick (Operand.tmp 57) (Operand.const (Value.bool true)) (Operand.tmp 62), type := 4, pos := "law.go:129", after := #[{ on := 5, ground := Ground.data }, { on := 10, ground := Ground.data }], guard := none }) (v := ?_) rfl (by kernel_rfl) (by kernel_rfl) (by kernel_rfl) (fun _ _ _ h => h) (Or.inl ⟨by rfl, ?_⟩) (by assumption) ?_
        rotate_left
        focus ((intro w hSw; (try dsimp only at hSw); go_simp); (try with_reducible rfl))
        try simp only [Act.put, List.setIfInBounds_toArray, List.set_cons_zero, List.set_cons_succ]
        refine wpAnyH_take (i := 12) (oi := { dst := some 64, op := Op.move (Operand.tmp 63), type := 4, pos := "law.go:129", after := #[{ on := 11, ground := Ground.data }, { on := 9, ground := Ground.chain }], guard := none }) (v := ?_) rfl (by kernel_rfl) (by kernel_rfl) (by kernel_rfl) (fun _ _ _ h => h) (Or.inl ⟨by rfl, ?_⟩) (by assumption) ?_
        rotate_left
        focus ((intro w hSw; (try dsimp only at hSw); go_simp); (try with_reducible rfl))
        try simp only [Act.put, List.setIfInBounds_toArray, List.set_cons_zero, List.set_cons_succ]
        refine wpAnyH_take (i := 13) (oi := { dst := some 65, op := Op.move (Operand.tmp 10), type := 22, pos := "law.go:129", after := #[{ on := 12, ground := Ground.guard }], guard := some (12, false) }) (v := ?_) rfl (by kernel_rfl) (by kernel_rfl) (by kernel_rfl) (fun _ _ _ h => h) (Or.inl ⟨by rfl, ?_⟩) (by assumption) ?_
        rotate_left
        focus ((intro w hSw; (try dsimp only at hSw); go_simp); (try with_reducible rfl))
        try simp only [Act.put, List.setIfInBounds_toArray, List.set_cons_zero, List.set_cons_succ]
        refine wpAnyH_take (i := 14) (oi := { dst := some 66, op := Op.move (Operand.tmp 11), type := 22, pos := "law.go:129", after := #[{ on := 12, ground := Ground.guard }], guard := some (12, false) }) (v := ?_) rfl (by kernel_rfl) (by kernel_rfl) (by kernel_rfl) (fun _ _ _ h => h) (Or.inl ⟨by rfl, ?_⟩) (by assumption) ?_
        rotate_left
        focus ((intro w hSw; (try dsimp only at hSw); go_simp); (try with_reducible rfl))
        try simp only [Act.put, List.setIfInBounds_toArray, List.set_cons_zero, List.set_cons_succ]
        refine wpAnyH_take (i := 15) (oi := { dst := some 67, op := Op.binOp BinOp.neq 22 (Operand.tmp 65) (Operand.tmp 66) 22, type := 4, pos := "law.go:129", after := #[{ on := 13, ground := Ground.data }, { on := 14, ground := Ground.data }, { on := 12, ground := Ground.guard }], guard := some (12, false) }) (v := ?_) rfl (by kernel_rfl) (by kernel_rfl) (by kernel_rfl) (fun _ _ _ h => h) (Or.inl ⟨by rfl, ?_⟩) (by assumption) ?_
        rotate_left
        focus ((intro w hSw; (try dsimp only at hSw); go_simp); (try with_reducible rfl))
        try simp only [Act.put, List.setIfInBounds_toArray, List.set_cons_zero, List.set_cons_succ]
        refine wpAnyH_take (i := 16) (oi := { dst := some 68, op := Op.move (Operand.tmp 67), type := 4, pos := "law.go:129", after := #[{ on := 15, ground := Ground.data }, { on := 12, ground := Ground.chain }, { on := 12, ground := Ground.guard }], guard := some (12, false) }) (v := ?_) rfl (by kernel_rfl) (by kernel_rfl) (by kernel_rfl) (fun _ _ _ h => h) (Or.inl ⟨by rfl, ?_⟩) (by assumption) ?_
        rotate_left
        focus ((intro w hSw; (try dsimp only at hSw); go_simp); (try with_reducible rfl))
        try simp only [Act.put, List.setIfInBounds_toArray, List.set_cons_zero, List.set_cons_succ]
        refine wpAnyH_take (i := 17) (oi := { dst := some 69, op := Op.move (Operand.tmp 10), type := 22, pos := "law.go:129", after := #[{ on := 16, ground := Ground.guard }], guard := some (16, true) }) (v := ?_) rfl (by kernel_rfl) (by kernel_rfl) (by kernel_rfl) (fun _ _ _ h => h) (Or.inl ⟨by rfl, ?_⟩) (by assumption) ?_
        rotate_left
        focus ((intro w hSw; (try dsimp only at hSw); go_simp); (try with_reducible rfl))
        try simp only [Act.put, List.setIfInBounds_toArray, List.set_cons_zero, List.set_cons_succ]
        refine wpAnyH_take (i := 19) (oi := { dst := some 71, op := Op.move (Operand.tmp 11), type := 22, pos := "law.go:129", after := #[{ on := 16, ground := Ground.guard }], guard := some (16, true) }) (v := ?_) rfl (by kernel_rfl) (by kernel_rfl) (by kernel_rfl) (fun _ _ _ h => h) (Or.inl ⟨by rfl, ?_⟩) (by assumption) ?_
        rotate_left
        focus ((intro w hSw; (try dsimp only at hSw); go_simp); (try with_reducible rfl))
        try simp only [Act.put, List.setIfInBounds_toArray, List.set_cons_zero, List.set_cons_succ]
        refine wpAnyH_ready (rs := [18]) (by kernel_rfl) (by simp) ?_
        refine AllReadyH.cons (o := { dst := some 70, op := Op.call { callee := Callee.value (Operand.func 38), args := #[Operand.tmp 69, Operand.const (Value.string { data := #[49] })], argTypes := #[22, 22] }, type := 22, pos := "law.go:129", after := #[{ on := 17, ground := Ground.data }, { on := 16, ground := Ground.chain }, { on := 16, ground := Ground.guard }], guard := some (16, true) }) rfl (fun K hK => ?_) AllReadyH.nil
        clear hHeld
        go_simp
        with_reducible refine Calls.mono (add_v (x := lo) (y := 1) (z := hi) _ (by first | exact HM.out.g | exact HM.out.drew.g | exact (HM.out.drewN _).g) (Nat.le_trans HSL.out (by decide)) (by decide) (vS_cS _) vS_one HLH2.out) ?_
        rintro e WX ⟨rfl, hB1⟩
        have HM2 : StM w WX fn fd bl (upTo A 7) (upTo B 7) := (by first | exact HM.out.next hB1 | exact HM.out.next1 hB1 | exact HM.out.nextD hB1)
        replace HM := Lib.hid HM2
        clear hB1 HM2
        clear fx fy m6 m5
        obtain ⟨fx, fy, _, _⟩ := HM.out.f.cells
        have m6 := HM.out.m.cell (upTo_all B (z := 6) (by omega) (by omega))
        rw [HB6.out] at m6
        have m5 := HM.out.m.cell (upTo_all B (z := 5) (by omega) (by omega))
        rw [HB5.out] at m5
        go_wp2_with fail
        refine hK.out _ _ (by (try dsimp only); go_keep) (fun hHeld => ?_)
        clear hK K
        try simp only [Act.put, List.setIfInBounds_toArray, List.set_cons_zero, List.set_cons_succ]
        refine wpAnyH_take (i := 20) (oi := { dst := some 72, op := Op.binOp BinOp.neq 22 (Operand.tmp 70) (Operand.tmp 71) 22, type := 4, pos := "law.go:129", after := #[{ on := 18, ground := Ground.data }, { on := 19, ground := Ground.data }, { on := 16, ground := Ground.guard }], guard := some (16, true) }) (v := ?_) rfl (by kernel_rfl) (by kernel_rfl) (by kernel_rfl) (fun _ _ _ h => h) (Or.inl ⟨by rfl, ?_⟩) (by assumption) ?_
        rotate_left
        focus ((intro w hSw; (try dsimp only at hSw); go_simp); (try with_reducible rfl))
        try simp only [Act.put, List.setIfInBounds_toArray, List.set_cons_zero, List.set_cons_succ]
        refine wpAnyH_take (i := 21) (oi := { dst := some 73, op := Op.pick (Operand.tmp 68) (Operand.tmp 72) (Operand.const (Value.bool false)), type := 4, pos := "law.go:129", after := #[{ on := 16, ground := Ground.data }, { on := 20, ground := Ground.data }, { on := 12, ground := Ground.guard }], guard := some (12, false) }) (v := ?_) rfl (by kernel_rfl) (by kernel_rfl) (by kernel_rfl) (fun _ _ _ h => h) (Or.inl ⟨by rfl, ?_⟩) (by assumption) ?_
        rotate_left
        focus ((intro w hSw; (try dsimp only at hSw); go_simp); (try with_reducible rfl))
        try simp only [Act.put, List.setIfInBounds_toArray, List.set_cons_zero, List.set_cons_succ]
        refine wpAnyH_take (i := 22) (oi := { dst := some 74, op := Op.pick (Operand.tmp 64) (Operand.const (Value.bool true)) (Operand.tmp 73), type := 4, pos := "law.go:129", after := #[{ on := 12, ground := Ground.data }, { on := 21, ground := Ground.data }], guard := none }) (v := ?_) rfl (by kernel_rfl) (by kernel_rfl) (by kernel_rfl) (fun _ _ _ h => h) (Or.inl ⟨by rfl, ?_⟩) (by assumption) ?_
        rotate_left
        focus ((intro w hSw; (try dsimp only at hSw); go_simp); (try with_reducible rfl))
        try simp only [Act.put, List.setIfInBounds_toArray, List.set_cons_zero, List.set_cons_succ]
        refine wpAnyH_take (i := 23) (oi := { dst := some 75, op := Op.move (Operand.tmp 74), type := 4, pos := "law.go:129", after := #[{ on := 22, ground := Ground.data }, { on := 18, ground := Ground.chain }], guard := none }) (v := ?_) rfl (by kernel_rfl) (by kernel_rfl) (by kernel_rfl) (fun _ _ _ h => h) (Or.inl ⟨by rfl, ?_⟩) (by assumption) ?_
        rotate_left
        focus ((intro w hSw; (try dsimp only at hSw); go_simp); (try with_reducible rfl))
        try simp only [Act.put, List.setIfInBounds_toArray, List.set_cons_zero, List.set_cons_succ]
        refine wpAnyH_take (i := 24) (oi := { dst := some 76, op := Op.move (Operand.tmp 10), type := 22, pos := "law.go:129", after := #[{ on := 23, ground := Ground.guard }], guard := some (23, false) }) (v := ?_) rfl (by kernel_rfl) (by kernel_rfl) (by kernel_rfl) (fun _ _ _ h => h) (Or.inl ⟨by rfl, ?_⟩) (by assumption) ?_
        rotate_left
        focus ((intro w hSw; (try dsimp only at hSw); go_simp); (try with_reducible rfl))
        try simp only [Act.put, List.setIfInBounds_toArray, List.set_cons_zero, List.set_cons_succ]
        refine wpAnyH_take (i := 25) (oi := { dst := some 77, op := Op.indexAddr 53 (Operand.tmp 4) (Operand.const (Value.int IntKind.i64 6)), type := 0, pos := "law.go:129", after := #[{ on := 23, ground := Ground.guard }], guard := some (23, false) }) (v := ?_) rfl (by kernel_rfl) (by kernel_rfl) (by kernel_rfl) (fun _ _ _ h => h) (Or.inl ⟨by rfl, ?_⟩) (by assumption) ?_
        rotate_left
        focus ((intro w hSw; (try dsimp only at hSw); go_simp); (try with_reducible rfl))
        try simp only [Act.put, List.setIfInBounds_toArray, List.set_cons_zero, List.set_cons_succ]
        refine wpAnyH_take (i := 26) (oi := { dst := some 78, op := Op.load 22 (Operand.tmp 77), type := 22, pos := "law.go:129", after := #[{ on := 25, ground := Ground.data }, { on := 23, ground := Ground.guard }], guard := some (23, false) }) (v := ?_) rfl (by kernel_rfl) (by kernel_rfl) (by kernel_rfl) (fun _ _ _ h => h) (Or.inl ⟨by rfl, ?_⟩) (by assumption) ?_
        rotate_left
        focus ((intro w hSw; (try dsimp only at hSw); go_simp); (try with_reducible rfl))
        try simp only [Act.put, List.setIfInBounds_toArray, List.set_cons_zero, List.set_cons_succ]
        refine wpAnyH_take (i := 27) (oi := { dst := some 79, op := Op.binOp BinOp.neq 22 (Operand.tmp 76) (Operand.tmp 78) 22, type := 4, pos := "law.go:129", after := #[{ on := 24, ground := Ground.data }, { on := 26, ground := Ground.data }, { on := 23, ground := Ground.guard }], guard := some (23, false) }) (v := ?_) rfl (by kernel_rfl) (by kernel_rfl) (by kernel_rfl) (fun _ _ _ h => h) (Or.inl ⟨by rfl, ?_⟩) (by assumption) ?_
        rotate_left
        focus ((intro w hSw; (try dsimp only at hSw); go_simp); (try with_reducible rfl))
        try simp only [Act.put, List.setIfInBounds_toArray, List.set_cons_zero, List.set_cons_succ]
        refine wpAnyH_take (i := 28) (oi := { dst := some 80, op := Op.pick (Operand.tmp 75) (Operand.const (Value.bool true)) (Operand.tmp 79), type := 4, pos := "law.go:129", after := #[{ on := 23, ground := Ground.data }, { on := 27, ground := Ground.data }], guard := none }) (v := ?_) rfl (by kernel_rfl) (by kernel_rfl) (by kernel_rfl) (fun _ _ _ h => h) (Or.inl ⟨by rfl, ?_⟩) (by assumption) ?_
        rotate_left
        focus ((intro w hSw; (try dsimp only at hSw); go_simp); (try with_reducible rfl))
        try simp only [Act.put, List.setIfInBounds_toArray, List.set_cons_zero, List.set_cons_succ]
        refine wpAnyH_take (i := 29) (oi := { dst := some 81, op := Op.move (Operand.tmp 80), type := 4, pos := "law.go:129", after := #[{ on := 28, ground := Ground.data }, { on := 23, ground := Ground.chain }], guard := none }) (v := ?_) rfl (by kernel_rfl) (by kernel_rfl) (by kernel_rfl) (fun _ _ _ h => h) (Or.inl ⟨by rfl, ?_⟩) (by assumption) ?_
        rotate_left
        focus ((intro w hSw; (try dsimp only at hSw); go_simp); (try with_reducible rfl))
        try simp only [Act.put, List.setIfInBounds_toArray, List.set_cons_zero, List.set_cons_succ]
        refine wpAnyH_take (i := 30) (oi := { dst := some 82, op := Op.move (Operand.tmp 11), type := 22, pos := "law.go:129", after := #[{ on := 29, ground := Ground.guard }], guard := some (29, false) }) (v := ?_) rfl (by kernel_rfl) (by kernel_rfl) (by kernel_rfl) (fun _ _ _ h => h) (Or.inl ⟨by rfl, ?_⟩) (by assumption) ?_
        rotate_left
        focus ((intro w hSw; (try dsimp only at hSw); go_simp); (try with_reducible rfl))
        try simp only [Act.put, List.setIfInBounds_toArray, List.set_cons_zero, List.set_cons_succ]
        refine wpAnyH_take (i := 31) (oi := { dst := some 83, op := Op.indexAddr 53 (Operand.tmp 4) (Operand.const (Value.int IntKind.i64 5)), type := 0, pos := "law.go:129", after := #[{ on := 29, ground := Ground.guard }], guard := some (29, false) }) (v := ?_) rfl (by kernel_rfl) (by kernel_rfl) (by kernel_rfl) (fun _ _ _ h => h) (Or.inl ⟨by rfl, ?_⟩) (by assumption) ?_
        rotate_left
        focus ((intro w hSw; (try dsimp only at hSw); go_simp); (try with_reducible rfl))
        try simp only [Act.put, List.setIfInBounds_toArray, List.set_cons_zero, List.set_cons_succ]
        refine wpAnyH_take (i := 32) (oi := { dst := some 84, op := Op.load 22 (Operand.tmp 83), type := 22, pos := "law.go:129", after := #[{ on := 31, ground := Ground.data }, { on := 29, ground := Ground.guard }], guard := some (29, false) }) (v := ?_) rfl (by kernel_rfl) (by kernel_rfl) (by kernel_rfl) (fun _ _ _ h => h) (Or.inl ⟨by rfl, ?_⟩) (by assumption) ?_
        rotate_left
        focus ((intro w hSw; (try dsimp only at hSw); go_simp); (try with_reducible rfl))
        try simp only [Act.put, List.setIfInBounds_toArray, List.set_cons_zero, List.set_cons_succ]
        refine wpAnyH_take (i := 33) (oi := { dst := some 85, op := Op.binOp BinOp.neq 22 (Operand.tmp 82) (Operand.tmp 84) 22, type := 4, pos := "law.go:129", after := #[{ on := 30, ground := Ground.data }, { on := 32, ground := Ground.data }, { on := 29, ground := Ground.guard }], guard := some (29, false) }) (v := ?_) rfl (by kernel_rfl) (by kernel_rfl) (by kernel_rfl) (fun _ _ _ h => h) (Or.inl ⟨by rfl, ?_⟩) (by assumption) ?_
        rotate_left
        focus ((intro w hSw; (try dsimp only at hSw); go_simp); (try with_reducible rfl))
        try simp only [Act.put, List.setIfInBounds_toArray, List.set_cons_zero, List.set_cons_succ]
        refine wpAnyH_take (i := 34) (oi := { dst := some 86, op := Op.pick (Operand.tmp 81) (Operand.const (Value.bool true)) (Operand.tmp 85), type := 4, pos := "law.go:129", after := #[{ on := 29, ground := Ground.data }, { on := 33, ground := Ground.data }], guard := none }) (v := ?_) rfl (by kernel_rfl) (by kernel_rfl) (by kernel_rfl) (fun _ _ _ h => h) (Or.inl ⟨by rfl, ?_⟩) (by assumption) ?_
        rotate_left
        focus ((intro w hSw; (try dsimp only at hSw); go_simp); (try with_reducible rfl))
        try simp only [Act.put, List.setIfInBounds_toArray, List.set_cons_zero, List.set_cons_succ]
        refine wpAnyH_done (by kernel_rfl) ?_ _
        clear hHeld
        clear fx fy m6 m5
        clear hlh
        go_wp2_with fail
        go_loopw [12] (fun iv wr => ∃ z : Nat, 1 ≤ z ∧ z ≤ 5 ∧ iv = .int .i64 (z : Int) ∧ StM w wr fn fd bl (upTo A 7) (upTo B 7)) (fun iv _ => 5 - (intOf iv).toNat)
        case atStart => exact ⟨1, by decide, by decide, rfl, HM.out⟩
        case round =>
          obtain ⟨z, hz1, hz5, rfl, hM⟩ := hrel
          clear HM
          by_cases hle : (z : Int) ≤ 4
          · have hz4 : z ≤ 4 := by omega
            have l0 := hM.l.cell (upTo_all A hz1 (by omega : z ≤ 6))
            have m0 := hM.m.cell (upTo_all B hz1 (by omega : z ≤ 6))
            rw [HBZ.out z hz1 hz4] at m0
            have hzi0 : (0 : Int) ≤ (z : Int) := by omega
            have hzi7 : (z : Int) < 7 := by omega
            have HM := Lib.hid hM
            clear hM
            go_upto_region 18 with fail
            rcases HAZ.out z with e | ⟨e1, e2⟩
            · rw [e] at l0 m0
              clear e
              refine wp_region_held_drew (S := fun w' => w'.cell? ⟨bl, z, none⟩ = some (.string (cS lo)) ∧ w'.cell? ⟨bl + 1, z, none⟩ = some (.string (cS lo))) (by kernel_rfl) (by (try dsimp only); go_keep) (fun hHeld => ?_)
              refine wpAnyH_take (i := 0) (oi := { dst := some 91, op := Op.move (Operand.tmp 12), type := 3, pos := "law.go:133", after := #[], guard := none }) (v := ?_) rfl (by kernel_rfl) (by kernel_rfl) (by kernel_rfl) (fun _ _ _ h => h) (Or.inl ⟨by rfl, ?_⟩) (by assumption) ?_
              rotate_left
              focus ((intro w hSw; (try dsimp only at hSw); go_simp); (try with_reducible rfl))
              try simp only [Act.put, List.setIfInBounds_toArray, List.set_cons_zero, List.set_cons_succ]
              refine wpAnyH_take (i := 1) (oi := { dst := some 92, op := Op.indexAddr 53 (Operand.tmp 3) (Operand.tmp 91), type := 0, pos := "law.go:133", after := #[{ on := 0, ground := Ground.data }], guard := none }) (v := ?_) rfl (by kernel_rfl) (by kernel_rfl) (by kernel_rfl) (fun _ _ _ h => h) (Or.inl ⟨by rfl, ?_⟩) (by assumption) ?_
              rotate_left
              focus ((intro w hSw; (try dsimp only at hSw); go_simp); (try with_reducible rfl))
              try simp only [Act.put, List.setIfInBounds_toArray, List.set_cons_zero, List.set_cons_succ]
              refine wpAnyH_take (i := 2) (oi := { dst := some 93, op := Op.load 22 (Operand.tmp 92), type := 22, pos := "law.go:133", after := #[{ on := 1, ground := Ground.data }], guard := none }) (v := ?_) rfl (by kernel_rfl) (by kernel_rfl) (by kernel_rfl) (fun _ _ _ h => h) (Or.inl ⟨by rfl, ?_⟩) (by assumption) ?_
              rotate_left
              focus ((intro w hSw; (try dsimp only at hSw); go_simp); (try with_reducible rfl))
              try simp only [Act.put, List.setIfInBounds_toArray, List.set_cons_zero, List.set_cons_succ]
              refine wpAnyH_take (i := 3) (oi := { dst := some 94, op := Op.move (Operand.tmp 10), type := 22, pos := "law.go:133", after := #[], guard := none }) (v := ?_) rfl (by kernel_rfl) (by kernel_rfl) (by kernel_rfl) (fun _ _ _ h => h) (Or.inl ⟨by rfl, ?_⟩) (by assumption) ?_
              rotate_left
              focus ((intro w hSw; (try dsimp only at hSw); go_simp); (try with_reducible rfl))
              try simp only [Act.put, List.setIfInBounds_toArray, List.set_cons_zero, List.set_cons_succ]
              refine wpAnyH_take (i := 4) (oi := { dst := some 95, op := Op.binOp BinOp.neq 22 (Operand.tmp 93) (Operand.tmp 94) 22, type := 4, pos := "law.go:133", after := #[{ on := 2, ground := Ground.data }, { on := 3, ground := Ground.data }], guard := none }) (v := ?_) rfl (by kernel_rfl) (by kernel_rfl) (by kernel_rfl) (fun _ _ _ h => h) (Or.inl ⟨by rfl, ?_⟩) (by assumption) ?_
              rotate_left
              focus ((intro w hSw; (try dsimp only at hSw); go_simp); (try with_reducible rfl))
              try simp only [Act.put, List.setIfInBounds_toArray, List.set_cons_zero, List.set_cons_succ]
              refine wpAnyH_take (i := 5) (oi := { dst := some 96, op := Op.move (Operand.tmp 95), type := 4, pos := "law.go:133", after := #[{ on := 4, ground := Ground.data }], guard := none }) (v := ?_) rfl (by kernel_rfl) (by kernel_rfl) (by kernel_rfl) (fun _ _ _ h => h) (Or.inl ⟨by rfl, ?_⟩) (by assumption) ?_
              rotate_left
              focus ((intro w hSw; (try dsimp only at hSw); go_simp); (try with_reducible rfl))
              try simp only [Act.put, List.setIfInBounds_toArray, List.set_cons_zero, List.set_cons_succ]
              refine wpAnyH_take (i := 6) (oi := { dst := some 97, op := Op.move (Operand.tmp 12), type := 3, pos := "law.go:133", after := #[{ on := 5, ground := Ground.guard }], guard := some (5, true) }) (v := undef) rfl (by kernel_rfl) (by kernel_rfl) (by kernel_rfl) (fun _ _ _ h => h) (Or.inr ⟨by rfl, rfl⟩) (by assumption) ?_
              try simp only [Act.put, List.setIfInBounds_toArray, List.set_cons_zero, List.set_cons_succ]
              refine wpAnyH_take (i := 7) (oi := { dst := some 98, op := Op.indexAddr 53 (Operand.tmp 3) (Operand.tmp 97), type := 0, pos := "law.go:133", after := #[{ on := 6, ground := Ground.data }, { on := 5, ground := Ground.guard }], guard := some (5, true) }) (v := undef) rfl (by kernel_rfl) (by kernel_rfl) (by kernel_rfl) (fun _ _ _ h => h) (Or.inr ⟨by rfl, rfl⟩) (by assumption) ?_
              try simp only [Act.put, List.setIfInBounds_toArray, List.set_cons_zero, List.set_cons_succ]
              refine wpAnyH_take (i := 8) (oi := { dst := some 99, op := Op.load 22 (Operand.tmp 98), type := 22, pos := "law.go:133", after := #[{ on := 7, ground := Ground.data }, { on := 5, ground := Ground.guard }], guard := some (5, true) }) (v := undef) rfl (by kernel_rfl) (by kernel_rfl) (by kernel_rfl) (fun _ _ _ h => h) (Or.inr ⟨by rfl, rfl⟩) (by assumption) ?_
              try simp only [Act.put, List.setIfInBounds_toArray, List.set_cons_zero, List.set_cons_succ]
              refine wpAnyH_take (i := 9) (oi := { dst := some 100, op := Op.move (Operand.tmp 11), type := 22, pos := "law.go:133", after := #[{ on := 5, ground := Ground.guard }], guard := some (5, true) }) (v := undef) rfl (by kernel_rfl) (by kernel_rfl) (by kernel_rfl) (fun _ _ _ h => h) (Or.inr ⟨by rfl, rfl⟩) (by assumption) ?_
              try simp only [Act.put, List.setIfInBounds_toArray, List.set_cons_zero, List.set_cons_succ]
              refine wpAnyH_take (i := 10) (oi := { dst := some 101, op := Op.binOp BinOp.neq 22 (Operand.tmp 99) (Operand.tmp 100) 22, type := 4, pos := "law.go:133", after := #[{ on := 8, ground := Ground.data }, { on := 9, ground := Ground.data }, { on := 5, ground := Ground.guard }], guard := some (5, true) }) (v := undef) rfl (by kernel_rfl) (by kernel_rfl) (by kernel_rfl) (fun _ _ _ h => h) (Or.inr ⟨by rfl, rfl⟩) (by assumption) ?_
              try simp only [Act.put, List.setIfInBounds_toArray, List.set_cons_zero, List.set_cons_succ]
              refine wpAnyH_take (i := 11) (oi := { dst := some 102, op := Op.pick (Operand.tmp 96) (Operand.tmp 101) (Operand.const (Value.bool false)), type := 4, pos := "law.go:133", after := #[{ on := 5, ground := Ground.data }, { on := 10, ground := Ground.data }], guard := none }) (v := ?_) rfl (by kernel_rfl) (by kernel_rfl) (by kernel_rfl) (fun _ _ _ h => h) (Or.inl ⟨by rfl, ?_⟩) (by assumption) ?_
              rotate_left
              focus ((intro w hSw; (try dsimp only at hSw); go_simp); (try with_reducible rfl))
              try simp only [Act.put, List.setIfInBounds_toArray, List.set_cons_zero, List.set_cons_succ]
              refine wpAnyH_take (i := 12) (oi := { dst := some 103, op := Op.move (Operand.tmp 102), type := 4, pos := "law.go:133", after := #[{ on := 11, ground := Ground.data }, { on := 5, ground := Ground.chain }], guard := none }) (v := ?_) rfl (by kernel_rfl) (by kernel_rfl) (by kernel_rfl) (fun _ _ _ h => h) (Or.inl ⟨by rfl, ?_⟩) (by assumption) ?_
              rotate_left
              focus ((intro w hSw; (try dsimp only at hSw); go_simp); (try with_reducible rfl))
              try simp only [Act.put, List.setIfInBounds_toArray, List.set_cons_zero, List.set_cons_succ]
              refine wpAnyH_take (i := 13) (oi := { dst := some 104, op := Op.move (Operand.tmp 12), type := 3, pos := "law.go:133", after := #[{ on := 12, ground := Ground.guard }], guard := some (12, false) }) (v := ?_) rfl (by kernel_rfl) (by kernel_rfl) (by kernel_rfl) (fun _ _ _ h => h) (Or.inl ⟨by rfl, ?_⟩) (by assumption) ?_
              rotate_left
              focus ((intro w hSw; (try dsimp only at hSw); go_simp); (try with_reducible rfl))
              try simp only [Act.put, List.setIfInBounds_toArray, List.set_cons_zero, List.set_cons_succ]
              refine wpAnyH_take (i := 14) (oi := { dst := some 105, op := Op.indexAddr 53 (Operand.tmp 3) (Operand.tmp 104), type := 0, pos := "law.go:133", after := #[{ on := 13, ground := Ground.data }, { on := 12, ground := Ground.guard }], guard := some (12, false) }) (v := ?_) rfl (by kernel_rfl) (by kernel_rfl) (by kernel_rfl) (fun _ _ _ h => h) (Or.inl ⟨by rfl, ?_⟩) (by assumption) ?_
              rotate_left
              focus ((intro w hSw; (try dsimp only at hSw); go_simp); (try with_reducible rfl))
              try simp only [Act.put, List.setIfInBounds_toArray, List.set_cons_zero, List.set_cons_succ]
              refine wpAnyH_take (i := 15) (oi := { dst := some 106, op := Op.load 22 (Operand.tmp 105), type := 22, pos := "law.go:133", after := #[{ on := 14, ground := Ground.data }, { on := 12, ground := Ground.guard }], guard := some (12, false) }) (v := ?_) rfl (by kernel_rfl) (by kernel_rfl) (by kernel_rfl) (fun _ _ _ h => h) (Or.inl ⟨by rfl, ?_⟩) (by assumption) ?_
              rotate_left
              focus ((intro w hSw; (try dsimp only at hSw); go_simp); (try with_reducible rfl))
              try simp only [Act.put, List.setIfInBounds_toArray, List.set_cons_zero, List.set_cons_succ]
              refine wpAnyH_take (i := 16) (oi := { dst := some 107, op := Op.move (Operand.tmp 12), type := 3, pos := "law.go:133", after := #[{ on := 12, ground := Ground.guard }], guard := some (12, false) }) (v := ?_) rfl (by kernel_rfl) (by kernel_rfl) (by kernel_rfl) (fun _ _ _ h => h) (Or.inl ⟨by rfl, ?_⟩) (by assumption) ?_
              rotate_left
              focus ((intro w hSw; (try dsimp only at hSw); go_simp); (try with_reducible rfl))
              try simp only [Act.put, List.setIfInBounds_toArray, List.set_cons_zero, List.set_cons_succ]
              refine wpAnyH_take (i := 17) (oi := { dst := some 108, op := Op.indexAddr 53 (Operand.tmp 4) (Operand.tmp 107), type := 0, pos := "law.go:133", after := #[{ on := 16, ground := Ground.data }, { on := 12, ground := Ground.guard }], guard := some (12, false) }) (v := ?_) rfl (by kernel_rfl) (by kernel_rfl) (by kernel_rfl) (fun _ _ _ h => h) (Or.inl ⟨by rfl, ?_⟩) (by assumption) ?_
              rotate_left
              focus ((intro w hSw; (try dsimp only at hSw); go_simp); (try with_reducible rfl))
              try simp only [Act.put, List.setIfInBounds_toArray, List.set_cons_zero, List.set_cons_succ]
              refine wpAnyH_take (i := 18) (oi := { dst := some 109, op := Op.load 22 (Operand.tmp 108), type := 22, pos := "law.go:133", after := #[{ on := 17, ground := Ground.data }, { on := 12, ground := Ground.guard }], guard := some (12, false) }) (v := ?_) rfl (by kernel_rfl) (by kernel_rfl) (by kernel_rfl) (fun _ _ _ h => h) (Or.inl ⟨by rfl, ?_⟩) (by assumption) ?_
              rotate_left
              focus ((intro w hSw; (try dsimp only at hSw); go_simp); (try with_reducible rfl))
              try simp only [Act.put, List.setIfInBounds_toArray, List.set_cons_zero, List.set_cons_succ]
              refine wpAnyH_take (i := 19) (oi := { dst := some 110, op := Op.binOp BinOp.neq 22 (Operand.tmp 106) (Operand.tmp 109) 22, type := 4, pos := "law.go:133", after := #[{ on := 15, ground := Ground.data }, { on := 18, ground := Ground.data }, { on := 12, ground := Ground.guard }], guard := some (12, false) }) (v := ?_) rfl (by kernel_rfl) (by kernel_rfl) (by kernel_rfl) (fun _ _ _ h => h) (Or.inl ⟨by rfl, ?_⟩) (by assumption) ?_
              rotate_left
              focus ((intro w hSw; (try dsimp only at hSw); go_simp); (try with_reducible rfl))
              try simp only [Act.put, List.setIfInBounds_toArray, List.set_cons_zero, List.set_cons_succ]
              refine wpAnyH_take (i := 20) (oi := { dst := some 111, op := Op.pick (Operand.tmp 103) (Operand.const (Value.bool true)) (Operand.tmp 110), type := 4, pos := "law.go:133", after := #[{ on := 12, ground := Ground.data }, { on := 19, ground := Ground.data }], guard := none }) (v := ?_) rfl (by kernel_rfl) (by kernel_rfl) (by kernel_rfl) (fun _ _ _ h => h) (Or.inl ⟨by rfl, ?_⟩) (by assumption) ?_
              rotate_left
              focus ((intro w hSw; (try dsimp only at hSw); go_simp); (try with_reducible rfl))
              try simp only [Act.put, List.setIfInBounds_toArray, List.set_cons_zero, List.set_cons_succ]
              refine wpAnyH_done (by kernel_rfl) ?_ _
              clear hHeld
              clear l0 m0
              go_wp2_with fail
              exact ⟨⟨z + 1, by omega, by omega, by go_num, by first | exact HM.out.drew | exact HM.out⟩, by simp [intOf]; omega⟩
            · have hlh : ((cS hi).toList == (cS lo).toList) = false := by rw [beq_toList]; exact decide_eq_false (fun k => e1 (by rw [e2, k]))
              rw [e2] at l0 m0
              clear e1 e2
              refine wp_region_held_drew (S := fun w' => w'.cell? ⟨bl, z, none⟩ = some (.string (cS hi)) ∧ w'.cell? ⟨bl + 1, z, none⟩ = some (.string (cS hi))) (by kernel_rfl) (by (try dsimp only); go_keep) (fun hHeld => ?_)
              refine wpAnyH_take (i := 0) (oi := { dst := some 91, op := Op.move (Operand.tmp 12), type := 3, pos := "law.go:133", after := #[], guard := none }) (v := ?_) rfl (by kernel_rfl) (by kernel_rfl) (by kernel_rfl) (fun _ _ _ h => h) (Or.inl ⟨by rfl, ?_⟩) (by assumption) ?_
              rotate_left
              focus ((intro w hSw; (try dsimp only at hSw); go_simp); (try with_reducible rfl))
              try simp only [Act.put, List.setIfInBounds_toArray, List.set_cons_zero, List.set_cons_succ]
              refine wpAnyH_take (i := 1) (oi := { dst := some 92, op := Op.indexAddr 53 (Operand.tmp 3) (Operand.tmp 91), type := 0, pos := "law.go:133", after := #[{ on := 0, ground := Ground.data }], guard := none }) (v := ?_) rfl (by kernel_rfl) (by kernel_rfl) (by kernel_rfl) (fun _ _ _ h => h) (Or.inl ⟨by rfl, ?_⟩) (by assumption) ?_
              rotate_left
              focus ((intro w hSw; (try dsimp only at hSw); go_simp); (try with_reducible rfl))
              try simp only [Act.put, List.setIfInBounds_toArray, List.set_cons_zero, List.set_cons_succ]
              refine wpAnyH_take (i := 2) (oi := { dst := some 93, op := Op.load 22 (Operand.tmp 92), type := 22, pos := "law.go:133", after := #[{ on := 1, ground := Ground.data }], guard := none }) (v := ?_) rfl (by kernel_rfl) (by kernel_rfl) (by kernel_rfl) (fun _ _ _ h => h) (Or.inl ⟨by rfl, ?_⟩) (by assumption) ?_
              rotate_left
              focus ((intro w hSw; (try dsimp only at hSw); go_simp); (try with_reducible rfl))
              try simp only [Act.put, List.setIfInBounds_toArray, List.set_cons_zero, List.set_cons_succ]
              refine wpAnyH_take (i := 3) (oi := { dst := some 94, op := Op.move (Operand.tmp 10), type := 22, pos := "law.go:133", after := #[], guard := none }) (v := ?_) rfl (by kernel_rfl) (by kernel_rfl) (by kernel_rfl) (fun _ _ _ h => h) (Or.inl ⟨by rfl, ?_⟩) (by assumption) ?_
              rotate_left
              focus ((intro w hSw; (try dsimp only at hSw); go_simp); (try with_reducible rfl))
              try simp only [Act.put, List.setIfInBounds_toArray, List.set_cons_zero, List.set_cons_succ]
              refine wpAnyH_take (i := 4) (oi := { dst := some 95, op := Op.binOp BinOp.neq 22 (Operand.tmp 93) (Operand.tmp 94) 22, type := 4, pos := "law.go:133", after := #[{ on := 2, ground := Ground.data }, { on := 3, ground := Ground.data }], guard := none }) (v := ?_) rfl (by kernel_rfl) (by kernel_rfl) (by kernel_rfl) (fun _ _ _ h => h) (Or.inl ⟨by rfl, ?_⟩) (by assumption) ?_
              rotate_left
              focus ((intro w hSw; (try dsimp only at hSw); go_simp); (try with_reducible rfl))
              try simp only [Act.put, List.setIfInBounds_toArray, List.set_cons_zero, List.set_cons_succ]
              refine wpAnyH_take (i := 5) (oi := { dst := some 96, op := Op.move (Operand.tmp 95), type := 4, pos := "law.go:133", after := #[{ on := 4, ground := Ground.data }], guard := none }) (v := ?_) rfl (by kernel_rfl) (by kernel_rfl) (by kernel_rfl) (fun _ _ _ h => h) (Or.inl ⟨by rfl, ?_⟩) (by assumption) ?_
              rotate_left
              focus ((intro w hSw; (try dsimp only at hSw); go_simp); (try with_reducible rfl))
              try simp only [Act.put, List.setIfInBounds_toArray, List.set_cons_zero, List.set_cons_succ]
              refine wpAnyH_take (i := 6) (oi := { dst := some 97, op := Op.move (Operand.tmp 12), type := 3, pos := "law.go:133", after := #[{ on := 5, ground := Ground.guard }], guard := some (5, true) }) (v := ?_) rfl (by kernel_rfl) (by kernel_rfl) (by kernel_rfl) (fun _ _ _ h => h) (Or.inl ⟨by rfl, ?_⟩) (by assumption) ?_
              rotate_left
              focus ((intro w hSw; (try dsimp only at hSw); go_simp); (try with_reducible rfl))
              try simp only [Act.put, List.setIfInBounds_toArray, List.set_cons_zero, List.set_cons_succ]
              refine wpAnyH_take (i := 7) (oi := { dst := some 98, op := Op.indexAddr 53 (Operand.tmp 3) (Operand.tmp 97), type := 0, pos := "law.go:133", after := #[{ on := 6, ground := Ground.data }, { on := 5, ground := Ground.guard }], guard := some (5, true) }) (v := ?_) rfl (by kernel_rfl) (by kernel_rfl) (by kernel_rfl) (fun _ _ _ h => h) (Or.inl ⟨by rfl, ?_⟩) (by assumption) ?_
              rotate_left
              focus ((intro w hSw; (try dsimp only at hSw); go_simp); (try with_reducible rfl))
              try simp only [Act.put, List.setIfInBounds_toArray, List.set_cons_zero, List.set_cons_succ]
              refine wpAnyH_take (i := 8) (oi := { dst := some 99, op := Op.load 22 (Operand.tmp 98), type := 22, pos := "law.go:133", after := #[{ on := 7, ground := Ground.data }, { on := 5, ground := Ground.guard }], guard := some (5, true) }) (v := ?_) rfl (by kernel_rfl) (by kernel_rfl) (by kernel_rfl) (fun _ _ _ h => h) (Or.inl ⟨by rfl, ?_⟩) (by assumption) ?_
              rotate_left
              focus ((intro w hSw; (try dsimp only at hSw); go_simp); (try with_reducible rfl))
              try simp only [Act.put, List.setIfInBounds_toArray, List.set_cons_zero, List.set_cons_succ]
              refine wpAnyH_take (i := 9) (oi := { dst := some 100, op := Op.move (Operand.tmp 11), type := 22, pos := "law.go:133", after := #[{ on := 5, ground := Ground.guard }], guard := some (5, true) }) (v := ?_) rfl (by kernel_rfl) (by kernel_rfl) (by kernel_rfl) (fun _ _ _ h => h) (Or.inl ⟨by rfl, ?_⟩) (by assumption) ?_
              rotate_left
              focus ((intro w hSw; (try dsimp only at hSw); go_simp); (try with_reducible rfl))
              try simp only [Act.put, List.setIfInBounds_toArray, List.set_cons_zero, List.set_cons_succ]
              refine wpAnyH_take (i := 10) (oi := { dst := some 101, op := Op.binOp BinOp.neq 22 (Operand.tmp 99) (Operand.tmp 100) 22, type := 4, pos := "law.go:133", after := #[{ on := 8, ground := Ground.data }, { on := 9, ground := Ground.data }, { on := 5, ground := Ground.guard }], guard := some (5, true) }) (v := ?_) rfl (by kernel_rfl) (by kernel_rfl) (by kernel_rfl) (fun _ _ _ h => h) (Or.inl ⟨by rfl, ?_⟩) (by assumption) ?_
              rotate_left
              focus ((intro w hSw; (try dsimp only at hSw); go_simp); (try with_reducible rfl))
              try simp only [Act.put, List.setIfInBounds_toArray, List.set_cons_zero, List.set_cons_succ]
              refine wpAnyH_take (i := 11) (oi := { dst := some 102, op := Op.pick (Operand.tmp 96) (Operand.tmp 101) (Operand.const (Value.bool false)), type := 4, pos := "law.go:133", after := #[{ on := 5, ground := Ground.data }, { on := 10, ground := Ground.data }], guard := none }) (v := ?_) rfl (by kernel_rfl) (by kernel_rfl) (by kernel_rfl) (fun _ _ _ h => h) (Or.inl ⟨by rfl, ?_⟩) (by assumption) ?_
              rotate_left
              focus ((intro w hSw; (try dsimp only at hSw); go_simp); (try with_reducible rfl))
              try simp only [Act.put, List.setIfInBounds_toArray, List.set_cons_zero, List.set_cons_succ]
              refine wpAnyH_take (i := 12) (oi := { dst := some 103, op := Op.move (Operand.tmp 102), type := 4, pos := "law.go:133", after := #[{ on := 11, ground := Ground.data }, { on := 5, ground := Ground.chain }], guard := none }) (v := ?_) rfl (by kernel_rfl) (by kernel_rfl) (by kernel_rfl) (fun _ _ _ h => h) (Or.inl ⟨by rfl, ?_⟩) (by assumption) ?_
              rotate_left
              focus ((intro w hSw; (try dsimp only at hSw); go_simp); (try with_reducible rfl))
              try simp only [Act.put, List.setIfInBounds_toArray, List.set_cons_zero, List.set_cons_succ]
              refine wpAnyH_take (i := 13) (oi := { dst := some 104, op := Op.move (Operand.tmp 12), type := 3, pos := "law.go:133", after := #[{ on := 12, ground := Ground.guard }], guard := some (12, false) }) (v := ?_) rfl (by kernel_rfl) (by kernel_rfl) (by kernel_rfl) (fun _ _ _ h => h) (Or.inl ⟨by rfl, ?_⟩) (by assumption) ?_
              rotate_left
              focus ((intro w hSw; (try dsimp only at hSw); go_simp); (try with_reducible rfl))
              try simp only [Act.put, List.setIfInBounds_toArray, List.set_cons_zero, List.set_cons_succ]
              refine wpAnyH_take (i := 14) (oi := { dst := some 105, op := Op.indexAddr 53 (Operand.tmp 3) (Operand.tmp 104), type := 0, pos := "law.go:133", after := #[{ on := 13, ground := Ground.data }, { on := 12, ground := Ground.guard }], guard := some (12, false) }) (v := ?_) rfl (by kernel_rfl) (by kernel_rfl) (by kernel_rfl) (fun _ _ _ h => h) (Or.inl ⟨by rfl, ?_⟩) (by assumption) ?_
              rotate_left
              focus ((intro w hSw; (try dsimp only at hSw); go_simp); (try with_reducible rfl))
              try simp only [Act.put, List.setIfInBounds_toArray, List.set_cons_zero, List.set_cons_succ]
              refine wpAnyH_take (i := 15) (oi := { dst := some 106, op := Op.load 22 (Operand.tmp 105), type := 22, pos := "law.go:133", after := #[{ on := 14, ground := Ground.data }, { on := 12, ground := Ground.guard }], guard := some (12, false) }) (v := ?_) rfl (by kernel_rfl) (by kernel_rfl) (by kernel_rfl) (fun _ _ _ h => h) (Or.inl ⟨by rfl, ?_⟩) (by assumption) ?_
              rotate_left
              focus ((intro w hSw; (try dsimp only at hSw); go_simp); (try with_reducible rfl))
              try simp only [Act.put, List.setIfInBounds_toArray, List.set_cons_zero, List.set_cons_succ]
              refine wpAnyH_take (i := 16) (oi := { dst := some 107, op := Op.move (Operand.tmp 12), type := 3, pos := "law.go:133", after := #[{ on := 12, ground := Ground.guard }], guard := some (12, false) }) (v := ?_) rfl (by kernel_rfl) (by kernel_rfl) (by kernel_rfl) (fun _ _ _ h => h) (Or.inl ⟨by rfl, ?_⟩) (by assumption) ?_
              rotate_left
              focus ((intro w hSw; (try dsimp only at hSw); go_simp); (try with_reducible rfl))
              try simp only [Act.put, List.setIfInBounds_toArray, List.set_cons_zero, List.set_cons_succ]
              refine wpAnyH_take (i := 17) (oi := { dst := some 108, op := Op.indexAddr 53 (Operand.tmp 4) (Operand.tmp 107), type := 0, pos := "law.go:133", after := #[{ on := 16, ground := Ground.data }, { on := 12, ground := Ground.guard }], guard := some (12, false) }) (v := ?_) rfl (by kernel_rfl) (by kernel_rfl) (by kernel_rfl) (fun _ _ _ h => h) (Or.inl ⟨by rfl, ?_⟩) (by assumption) ?_
              rotate_left
              focus ((intro w hSw; (try dsimp only at hSw); go_simp); (try with_reducible rfl))
              try simp only [Act.put, List.setIfInBounds_toArray, List.set_cons_zero, List.set_cons_succ]
              refine wpAnyH_take (i := 18) (oi := { dst := some 109, op := Op.load 22 (Operand.tmp 108), type := 22, pos := "law.go:133", after := #[{ on := 17, ground := Ground.data }, { on := 12, ground := Ground.guard }], guard := some (12, false) }) (v := ?_) rfl (by kernel_rfl) (by kernel_rfl) (by kernel_rfl) (fun _ _ _ h => h) (Or.inl ⟨by rfl, ?_⟩) (by assumption) ?_
              rotate_left
              focus ((intro w hSw; (try dsimp only at hSw); go_simp); (try with_reducible rfl))
              try simp only [Act.put, List.setIfInBounds_toArray, List.set_cons_zero, List.set_cons_succ]
              refine wpAnyH_take (i := 19) (oi := { dst := some 110, op := Op.binOp BinOp.neq 22 (Operand.tmp 106) (Operand.tmp 109) 22, type := 4, pos := "law.go:133", after := #[{ on := 15, ground := Ground.data }, { on := 18, ground := Ground.data }, { on := 12, ground := Ground.guard }], guard := some (12, false) }) (v := ?_) rfl (by kernel_rfl) (by kernel_rfl) (by kernel_rfl) (fun _ _ _ h => h) (Or.inl ⟨by rfl, ?_⟩) (by assumption) ?_
              rotate_left
              focus ((intro w hSw; (try dsimp only at hSw); go_simp); (try with_reducible rfl))
              try simp only [Act.put, List.setIfInBounds_toArray, List.set_cons_zero, List.set_cons_succ]
              refine wpAnyH_take (i := 20) (oi := { dst := some 111, op := Op.pick (Operand.tmp 103) (Operand.const (Value.bool true)) (Operand.tmp 110), type := 4, pos := "law.go:133", after := #[{ on := 12, ground := Ground.data }, { on := 19, ground := Ground.data }], guard := none }) (v := ?_) rfl (by kernel_rfl) (by kernel_rfl) (by kernel_rfl) (fun _ _ _ h => h) (Or.inl ⟨by rfl, ?_⟩) (by assumption) ?_
              rotate_left
              focus ((intro w hSw; (try dsimp only at hSw); go_simp); (try with_reducible rfl))
              try simp only [Act.put, List.setIfInBounds_toArray, List.set_cons_zero, List.set_cons_succ]
              refine wpAnyH_done (by kernel_rfl) ?_ _
              clear hHeld
              clear hlh
              clear l0 m0
              go_wp2_with fail
              exact ⟨⟨z + 1, by omega, by omega, by go_num, by first | exact HM.out.drew | exact HM.out⟩, by simp [intOf]; omega⟩
          · obtain rfl : z = 5 := by omega
            have HM := Lib.hid hM
            clear hM
            go_upto_region 20 with fail
            rcases HSG.out with ⟨h0, e4, e3⟩ | ⟨h0, e3, e4⟩
            · have l3 := HM.out.l.cell (upTo_all A (z := 3) (by omega) (by omega))
              rw [e3] at l3
              have l4 := HM.out.l.cell (upTo_all A (z := 4) (by omega) (by omega))
              rw [e4] at l4
              clear e3 e4
              refine wp_region_held_drew (S := fun w' => w'.cell? ⟨bl, 3, none⟩ = some (.string (cS hi)) ∧ w'.cell? ⟨bl, 4, none⟩ = some (.string (cS lo))) (by kernel_rfl) (by (try dsimp only); go_keep) (fun hHeld => ?_)
              refine wpAnyH_take (i := 0) (oi := { dst := some 112, op := Op.indexAddr 53 (Operand.tmp 3) (Operand.const (Value.int IntKind.i64 3)), type := 0, pos := "law.go:137", after := #[], guard := none }) (v := ?_) rfl (by kernel_rfl) (by kernel_rfl) (by kernel_rfl) (fun _ _ _ h => h) (Or.inl ⟨by rfl, ?_⟩) (by assumption) ?_
              rotate_left
              focus ((intro w hSw; (try dsimp only at hSw); go_simp); (try with_reducible rfl))
              try simp only [Act.put, List.setIfInBounds_toArray, List.set_cons_zero, List.set_cons_succ]
              refine wpAnyH_take (i := 2) (oi := { dst := some 114, op := Op.indexAddr 53 (Operand.tmp 3) (Operand.const (Value.int IntKind.i64 4)), type := 0, pos := "law.go:137", after := #[{ on := 4, ground := Ground.gcOnly Departure.lateStores }], guard := none }) (v := ?_) rfl (by kernel_rfl) (by kernel_rfl) (by kernel_rfl) (fun _ _ _ h => h) (Or.inl ⟨by rfl, ?_⟩) (by assumption) ?_
              rotate_left
              focus ((intro w hSw; (try dsimp only at hSw); go_simp); (try with_reducible rfl))
              try simp only [Act.put, List.setIfInBounds_toArray, List.set_cons_zero, List.set_cons_succ]
              refine wpAnyH_take (i := 1) (oi := { dst := some 113, op := Op.load 22 (Operand.tmp 112), type := 22, pos := "law.go:137", after := #[{ on := 0, ground := Ground.data }], guard := none }) (v := ?_) rfl (by kernel_rfl) (by kernel_rfl) (by kernel_rfl) (fun _ _ _ h => h) (Or.inl ⟨by rfl, ?_⟩) (by assumption) ?_
              rotate_left
              focus ((intro w hSw; (try dsimp only at hSw); go_simp); (try with_reducible rfl))
              try simp only [Act.put, List.setIfInBounds_toArray, List.set_cons_zero, List.set_cons_succ]
              refine wpAnyH_take (i := 3) (oi := { dst := some 115, op := Op.load 22 (Operand.tmp 114), type := 22, pos := "law.go:137", after := #[{ on := 2, ground := Ground.data }, { on := 4, ground := Ground.gcOnly Departure.lateStores }], guard := none }) (v := ?_) rfl (by kernel_rfl) (by kernel_rfl) (by kernel_rfl) (fun _ _ _ h => h) (Or.inl ⟨by rfl, ?_⟩) (by assumption) ?_
              rotate_left
              focus ((intro w hSw; (try dsimp only at hSw); go_simp); (try with_reducible rfl))
              try simp only [Act.put, List.setIfInBounds_toArray, List.set_cons_zero, List.set_cons_succ]
              refine wpAnyH_take (i := 4) (oi := { dst := some 13, op := Op.assign (Operand.tmp 113), type := 22, pos := "law.go:137", after := #[{ on := 1, ground := Ground.data }, { on := 0, ground := Ground.phase }, { on := 1, ground := Ground.phase }, { on := 2, ground := Ground.textOnly Departure.lateStores }, { on := 3, ground := Ground.textOnly Departure.lateStores }], guard := none }) (v := ?_) rfl (by kernel_rfl) (by kernel_rfl) (by kernel_rfl) (fun _ _ _ h => h) (Or.inl ⟨by rfl, ?_⟩) (by assumption) ?_
              rotate_left
              focus ((intro w hSw; (try dsimp only at hSw); go_simp); (try with_reducible rfl))
              try simp only [Act.put, List.setIfInBounds_toArray, List.set_cons_zero, List.set_cons_succ]
              refine wpAnyH_take (i := 5) (oi := { dst := some 14, op := Op.assign (Operand.tmp 115), type := 22, pos := "law.go:137", after := #[{ on := 3, ground := Ground.data }, { on := 4, ground := Ground.chain }, { on := 0, ground := Ground.phase }, { on := 1, ground := Ground.phase }, { on := 2, ground := Ground.phase }, { on := 3, ground := Ground.phase }, { on := 4, ground := Ground.phase }], guard := none }) (v := ?_) rfl (by kernel_rfl) (by kernel_rfl) (by kernel_rfl) (fun _ _ _ h => h) (Or.inl ⟨by rfl, ?_⟩) (by assumption) ?_
              rotate_left
              focus ((intro w hSw; (try dsimp only at hSw); go_simp); (try with_reducible rfl))
              try simp only [Act.put, List.setIfInBounds_toArray, List.set_cons_zero, List.set_cons_succ]
              refine wpAnyH_done (by kernel_rfl) ?_ _
              clear hHeld
              clear l3 l4
              replace HM := Lib.hid HM.out.drew
              go_upto_region 21 with fail
              obtain ⟨fx, fy, _, _⟩ := HM.out.f.cells
              refine wp_region_held_drew (S := fun w' => w'.cell? ⟨w.heap.size, 0, none⟩ = some (.string fn) ∧ w'.cell? ⟨w.heap.size, 1, none⟩ = some (.string fd)) (by kernel_rfl) (by (try dsimp only); go_keep) (fun hHeld => ?_)
              refine wpAnyH_take (i := 0) (oi := { dst := some 116, op := Op.load 24 (Operand.tmp 1), type := 24, pos := "law.go:138", after := #[], guard := none }) (v := ?_) rfl (by kernel_rfl) (by kernel_rfl) (by kernel_rfl) (fun _ _ _ h => h) (Or.inl ⟨by rfl, ?_⟩) (by assumption) ?_
              rotate_left
              focus ((intro w hSw; (try dsimp only at hSw); go_simp); (try with_reducible rfl))
              try simp only [Act.put, List.setIfInBounds_toArray, List.set_cons_zero, List.set_cons_succ]
              refine wpAnyH_ready (rs := [1]) (by kernel_rfl) (by simp) ?_
              refine AllReadyH.cons (o := { dst := some 117, op := Op.call { callee := Callee.value (Operand.func 32), args := #[Operand.const (Value.int IntKind.i64 0), Operand.const (Value.int IntKind.i64 1)], argTypes := #[3, 3] }, type := 24, pos := "law.go:138", after := #[], guard := none }) rfl (fun K hK => ?_) AllReadyH.nil
              clear hHeld
              go_simp
              with_reducible refine Calls.mono (ratio_0_1.call _ (by first | exact HM.out.g | exact HM.out.drew.g | exact (HM.out.drewN _).g)) ?_
              rintro e WX ⟨rfl, hB1⟩
              have HM2 : StM w WX fn fd bl (upTo A 7) (upTo B 7) := (by first | exact HM.out.next hB1 | exact HM.out.next1 hB1 | exact HM.out.nextD hB1)
              replace HM := Lib.hid HM2
              clear hB1 HM2
              clear fx fy
              obtain ⟨fx, fy, _, _⟩ := HM.out.f.cells
              go_wp2_with fail
              refine hK.out _ _ (by (try dsimp only); go_keep) (fun hHeld => ?_)
              clear hK K
              try simp only [Act.put, List.setIfInBounds_toArray, List.set_cons_zero, List.set_cons_succ]
              refine wpAnyH_ready (rs := [2]) (by kernel_rfl) (by simp) ?_
              refine AllReadyH.cons (o := { dst := some 118, op := Op.call { callee := Callee.value (Operand.func 29), args := #[Operand.tmp 116, Operand.tmp 117], argTypes := #[24, 24] }, type := 3, pos := "law.go:138", after := #[{ on := 0, ground := Ground.data }, { on := 1, ground := Ground.data }, { on := 1, ground := Ground.chain }], guard := none }) rfl (fun K hK => ?_) AllReadyH.nil
              clear hHeld
              go_simp
              with_reducible refine Calls.mono (fCompare_v (c := c0) _ (by first | exact HM.out.g | exact HM.out.drew.g | exact (HM.out.drewN _).g) (HF.out.arg (by decide)) Val.zero HC0.out) ?_
              rintro e WX ⟨rfl, hB1⟩
              have HM2 : StM w WX fn fd bl (upTo A 7) (upTo B 7) := (by first | exact HM.out.next hB1 | exact HM.out.next1 hB1 | exact HM.out.nextD hB1)
              replace HM := Lib.hid HM2
              clear hB1 HM2
              clear fx fy
              obtain ⟨fx, fy, _, _⟩ := HM.out.f.cells
              go_wp2_with fail
              refine hK.out _ _ (by (try dsimp only); go_keep) (fun hHeld => ?_)
              clear hK K
              try simp only [Act.put, List.setIfInBounds_toArray, List.set_cons_zero, List.set_cons_succ]
              refine wpAnyH_take (i := 3) (oi := { dst := some 119, op := Op.binOp BinOp.lss 3 (Operand.tmp 118) (Operand.const (Value.int IntKind.i64 0)) 3, type := 4, pos := "law.go:138", after := #[{ on := 2, ground := Ground.data }], guard := none }) (v := ?_) rfl (by kernel_rfl) (by kernel_rfl) (by kernel_rfl) (fun _ _ _ h => h) (Or.inl ⟨by rfl, ?_⟩) (by assumption) ?_
              rotate_left
              focus ((intro w hSw; (try dsimp only at hSw); go_simp); (try with_reducible rfl))
              try simp only [Act.put, List.setIfInBounds_toArray, List.set_cons_zero, List.set_cons_succ]
              refine wpAnyH_done (by kernel_rfl) ?_ _
              clear hHeld
              clear fx fy
              go_wp2_with fail
              refine Calls.mono (Ret.call HAW.out _ HM.out.g) ?_
              rintro _ w9 ⟨rfl, hB⟩
              have hM := HM.out.next hB
              clear hB HM
              go_wp2_with fail
              go_ret
              exact ⟨rfl, hM.below⟩
            · have l3 := HM.out.l.cell (upTo_all A (z := 3) (by omega) (by omega))
              rw [e3] at l3
              have l4 := HM.out.l.cell (upTo_all A (z := 4) (by omega) (by omega))
              rw [e4] at l4
              clear e3 e4
              refine wp_region_held_drew (S := fun w' => w'.cell? ⟨bl, 3, none⟩ = some (.string (cS lo)) ∧ w'.cell? ⟨bl, 4, none⟩ = some (.string (cS hi))) (by kernel_rfl) (by (try dsimp only); go_keep) (fun hHeld => ?_)
              refine wpAnyH_take (i := 0) (oi := { dst := some 112, op := Op.indexAddr 53 (Operand.tmp 3) (Operand.const (Value.int IntKind.i64 3)), type := 0, pos := "law.go:137", after := #[], guard := none }) (v := ?_) rfl (by kernel_rfl) (by kernel_rfl) (by kernel_rfl) (fun _ _ _ h => h) (Or.inl ⟨by rfl, ?_⟩) (by assumption) ?_
              rotate_left
              focus ((intro w hSw; (try dsimp only at hSw); go_simp); (try with_reducible rfl))
              try simp only [Act.put, List.setIfInBounds_toArray, List.set_cons_zero, List.set_cons_succ]
              refine wpAnyH_take (i := 2) (oi := { dst := some 114, op := Op.indexAddr 53 (Operand.tmp 3) (Operand.const (Value.int IntKind.i64 4)), type := 0, pos := "law.go:137", after := #[{ on := 4, ground := Ground.gcOnly Departure.lateStores }], guard := none }) (v := ?_) rfl (by kernel_rfl) (by kernel_rfl) (by kernel_rfl) (fun _ _ _ h => h) (Or.inl ⟨by rfl, ?_⟩) (by assumption) ?_
              rotate_left
              focus ((intro w hSw; (try dsimp only at hSw); go_simp); (try with_reducible rfl))
              try simp only [Act.put, List.setIfInBounds_toArray, List.set_cons_zero, List.set_cons_succ]
              refine wpAnyH_take (i := 1) (oi := { dst := some 113, op := Op.load 22 (Operand.tmp 112), type := 22, pos := "law.go:137", after := #[{ on := 0, ground := Ground.data }], guard := none }) (v := ?_) rfl (by kernel_rfl) (by kernel_rfl) (by kernel_rfl) (fun _ _ _ h => h) (Or.inl ⟨by rfl, ?_⟩) (by assumption) ?_
              rotate_left
              focus ((intro w hSw; (try dsimp only at hSw); go_simp); (try with_reducible rfl))
              try simp only [Act.put, List.setIfInBounds_toArray, List.set_cons_zero, List.set_cons_succ]
              refine wpAnyH_take (i := 3) (oi := { dst := some 115, op := Op.load 22 (Operand.tmp 114), type := 22, pos := "law.go:137", after := #[{ on := 2, ground := Ground.data }, { on := 4, ground := Ground.gcOnly Departure.lateStores }], guard := none }) (v := ?_) rfl (by kernel_rfl) (by kernel_rfl) (by kernel_rfl) (fun _ _ _ h => h) (Or.inl ⟨by rfl, ?_⟩) (by assumption) ?_
              rotate_left
              focus ((intro w hSw; (try dsimp only at hSw); go_simp); (try with_reducible rfl))
              try simp only [Act.put, List.setIfInBounds_toArray, List.set_cons_zero, List.set_cons_succ]
              refine wpAnyH_take (i := 4) (oi := { dst := some 13, op := Op.assign (Operand.tmp 113), type := 22, pos := "law.go:137", after := #[{ on := 1, ground := Ground.data }, { on := 0, ground := Ground.phase }, { on := 1, ground := Ground.phase }, { on := 2, ground := Ground.textOnly Departure.lateStores }, { on := 3, ground := Ground.textOnly Departure.lateStores }], guard := none }) (v := ?_) rfl (by kernel_rfl) (by kernel_rfl) (by kernel_rfl) (fun _ _ _ h => h) (Or.inl ⟨by rfl, ?_⟩) (by assumption) ?_
              rotate_left
              focus ((intro w hSw; (try dsimp only at hSw); go_simp); (try with_reducible rfl))
              try simp only [Act.put, List.setIfInBounds_toArray, List.set_cons_zero, List.set_cons_succ]
              refine wpAnyH_take (i := 5) (oi := { dst := some 14, op := Op.assign (Operand.tmp 115), type := 22, pos := "law.go:137", after := #[{ on := 3, ground := Ground.data }, { on := 4, ground := Ground.chain }, { on := 0, ground := Ground.phase }, { on := 1, ground := Ground.phase }, { on := 2, ground := Ground.phase }, { on := 3, ground := Ground.phase }, { on := 4, ground := Ground.phase }], guard := none }) (v := ?_) rfl (by kernel_rfl) (by kernel_rfl) (by kernel_rfl) (fun _ _ _ h => h) (Or.inl ⟨by rfl, ?_⟩) (by assumption) ?_
              rotate_left
              focus ((intro w hSw; (try dsimp only at hSw); go_simp); (try with_reducible rfl))
              try simp only [Act.put, List.setIfInBounds_toArray, List.set_cons_zero, List.set_cons_succ]
              refine wpAnyH_done (by kernel_rfl) ?_ _
              clear hHeld
              clear l3 l4
              replace HM := Lib.hid HM.out.drew
              go_upto_region 21 with fail
              obtain ⟨fx, fy, _, _⟩ := HM.out.f.cells
              refine wp_region_held_drew (S := fun w' => w'.cell? ⟨w.heap.size, 0, none⟩ = some (.string fn) ∧ w'.cell? ⟨w.heap.size, 1, none⟩ = some (.string fd)) (by kernel_rfl) (by (try dsimp only); go_keep) (fun hHeld => ?_)
              refine wpAnyH_take (i := 0) (oi := { dst := some 116, op := Op.load 24 (Operand.tmp 1), type := 24, pos := "law.go:138", after := #[], guard := none }) (v := ?_) rfl (by kernel_rfl) (by kernel_rfl) (by kernel_rfl) (fun _ _ _ h => h) (Or.inl ⟨by rfl, ?_⟩) (by assumption) ?_
              rotate_left
              focus ((intro w hSw; (try dsimp only at hSw); go_simp); (try with_reducible rfl))
              try simp only [Act.put, List.setIfInBounds_toArray, List.set_cons_zero, List.set_cons_succ]
              refine wpAnyH_ready (rs := [1]) (by kernel_rfl) (by simp) ?_
              refine AllReadyH.cons (o := { dst := some 117, op := Op.call { callee := Callee.value (Operand.func 32), args := #[Operand.const (Value.int IntKind.i64 0), Operand.const (Value.int IntKind.i64 1)], argTypes := #[3, 3] }, type := 24, pos := "law.go:138", after := #[], guard := none }) rfl (fun K hK => ?_) AllReadyH.nil
              clear hHeld
              go_simp
              with_reducible refine Calls.mono (ratio_0_1.call _ (by first | exact HM.out.g | exact HM.out.drew.g | exact (HM.out.drewN _).g)) ?_
              rintro e WX ⟨rfl, hB1⟩
              have HM2 : StM w WX fn fd bl (upTo A 7) (upTo B 7) := (by first | exact HM.out.next hB1 | exact HM.out.next1 hB1 | exact HM.out.nextD hB1)
              replace HM := Lib.hid HM2
              clear hB1 HM2
              clear fx fy
              obtain ⟨fx, fy, _, _⟩ := HM.out.f.cells
              go_wp2_with fail
              refine hK.out _ _ (by (try dsimp only); go_keep) (fun hHeld => ?_)
              clear hK K
              try simp only [Act.put, List.setIfInBounds_toArray, List.set_cons_zero, List.set_cons_succ]
              refine wpAnyH_ready (rs := [2]) (by kernel_rfl) (by simp) ?_
              refine AllReadyH.cons (o := { dst := some 118, op := Op.call { callee := Callee.value (Operand.func 29), args := #[Operand.tmp 116, Operand.tmp 117], argTypes := #[24, 24] }, type := 3, pos := "law.go:138", after := #[{ on := 0, ground := Ground.data }, { on := 1, ground := Ground.data }, { on := 1, ground := Ground.chain }], guard := none }) rfl (fun K hK => ?_) AllReadyH.nil
              clear hHeld
              go_simp
              with_reducible refine Calls.mono (fCompare_v (c := c0) _ (by first | exact HM.out.g | exact HM.out.drew.g | exact (HM.out.drewN _).g) (HF.out.arg (by decide)) Val.zero HC0.out) ?_
              rintro e WX ⟨rfl, hB1⟩
              have HM2 : StM w WX fn fd bl (upTo A 7) (upTo B 7) := (by first | exact HM.out.next hB1 | exact HM.out.next1 hB1 | exact HM.out.nextD hB1)
              replace HM := Lib.hid HM2
              clear hB1 HM2
              clear fx fy
              obtain ⟨fx, fy, _, _⟩ := HM.out.f.cells
              go_wp2_with fail
              refine hK.out _ _ (by (try dsimp only); go_keep) (fun hHeld => ?_)
              clear hK K
              try simp only [Act.put, List.setIfInBounds_toArray, List.set_cons_zero, List.set_cons_succ]
              refine wpAnyH_take (i := 3) (oi := { dst := some 119, op := Op.binOp BinOp.lss 3 (Operand.tmp 118) (Operand.const (Value.int IntKind.i64 0)) 3, type := 4, pos := "law.go:138", after := #[{ on := 2, ground := Ground.data }], guard := none }) (v := ?_) rfl (by kernel_rfl) (by kernel_rfl) (by kernel_rfl) (fun _ _ _ h => h) (Or.inl ⟨by rfl, ?_⟩) (by assumption) ?_
              rotate_left
              focus ((intro w hSw; (try dsimp only at hSw); go_simp); (try with_reducible rfl))
              try simp only [Act.put, List.setIfInBounds_toArray, List.set_cons_zero, List.set_cons_succ]
              refine wpAnyH_done (by kernel_rfl) ?_ _
              clear hHeld
              clear fx fy
              go_wp2_with fail
              refine Calls.mono (Ret.call HAW.out _ HM.out.g) ?_
              rintro _ w9 ⟨rfl, hB⟩
              have hM := HM.out.next hB
              clear hB HM
              go_wp2_with fail
              go_ret
              exact ⟨rfl, hM.below⟩

theorem dmo_any (fn fd : ByteArray) (w : World) (hG : Ground w) :
    Calls Tryz.prog 7 #[.agg #[.string fn, .string fd]] w fun e w' => e = .returned (.bool true) ∧ Below w.heap.size w w' := by
  by_cases hs : fn.size ≤ 60 ∧ fd.size ≤ 60
  · exact dmo_in fn fd w hG hs.1 hs.2 (longF_false hs.1 hs.2)
  · exact dmo_long fn fd w hG (longF_true (by omega))
end Go.Proofs.YtlonbfddhfacmaaGreatDoor
