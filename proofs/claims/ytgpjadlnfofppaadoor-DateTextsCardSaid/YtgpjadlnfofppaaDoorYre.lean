/- Layer 6, the reference implementation: Parse: the walk. -/
import Derived.Test.YtgpjadlnfofppaaDoorYrc
import Derived.Test.YtgpjadlnfofppaaDoorYrd
import Derived.RegionTactic
import Derived.ChangeAlike
import Derived.StillTailTactics
namespace Go.Proofs.YtgpjadlnfofppaaDoor
open Go.RowKit Dat

/-- the three numbers in memory -/
def L3 (w : World) (L : Nat) (a b c : Int) : Prop := w.heap[L]? = some (.cells #[.int .i64 a, .int .i64 b, .int .i64 c] 59 (0, 0))
theorem L3.cells {w : World} {L : Nat} {a b c : Int} (h : L3 w L a b c) : w.cell? ⟨L, 0, none⟩ = some (.int .i64 a) ∧ w.cell? ⟨L, 1, none⟩ = some (.int .i64 b) ∧ w.cell? ⟨L, 2, none⟩ = some (.int .i64 c) := by
  unfold L3 at h
  unfold World.cell?
  simp [h]
theorem L3.frozen {w : World} {L : Nat} {a b c : Int} (h : L3 w L a b c) (j : Nat) : w.frozen? ⟨L, j, none⟩ = false := by
  unfold L3 at h
  simp [World.frozen?, h]
theorem L3.put0 {w : World} {L : Nat} {a b c : Int} (h : L3 w L a b c) (x : Int) : L3 (w.setCell ⟨L, 0, none⟩ (.int .i64 x)) L x b c := heap_setCell_same w L 0 _ _ _ h
theorem L3.put1 {w : World} {L : Nat} {a b c : Int} (h : L3 w L a b c) (x : Int) : L3 (w.setCell ⟨L, 1, none⟩ (.int .i64 x)) L a x c := heap_setCell_same w L 1 _ _ _ h
theorem L3.put2 {w : World} {L : Nat} {a b c : Int} (h : L3 w L a b c) (x : Int) : L3 (w.setCell ⟨L, 2, none⟩ (.int .i64 x)) L a b x := heap_setCell_same w L 2 _ _ _ h

/-- what Parse leaves -/
def ParP (r : Int × Int) (w : World) (e : Ending) (w' : World) : Prop := e = .returned (.tuple #[.int .i64 r.1, .int .i64 r.2]) ∧ Below w.heap.size w w'
set_option maxRecDepth 100000 in
set_option maxHeartbeats 16000000 in
theorem rParse_ten (s : ByteArray) (w : World) (h : s.size = 10) : Calls Tryd.prog 30 #[.string s] w (ParP (parseR s) w) := by
  have HOK := Lib.hid (fun hf => parseR_full h hf)
  have HBAD := Lib.hid (fun p (hp : p < 10) hf => parseR_fail h (p := p) hp hf)
  have hb : ((s.size : Int) != 10) = false := by rw [bne_eq_false_iff_eq]; omega
  have hs9 : 9 < s.size := by omega
  have HAT := Lib.hid (fun i (hi : i < s.size) => (show s[i]'hi = gB s i from at_getD s i hi))
  unfold ParP
  obtain ⟨r1, hr1⟩ : ∃ r, (parseR s).1 = r := ⟨_, rfl⟩
  obtain ⟨r2, hr2⟩ : ∃ r, (parseR s).2 = r := ⟨_, rfl⟩
  rw [hr1, hr2]
  have HR := Lib.hid (show parseR s = (r1, r2) by rw [← hr1, ← hr2])
  clear h hr1 hr2
  obtain ⟨L, hL⟩ : ∃ L, w.heap.size = L := ⟨_, rfl⟩
  go_enter Tryd.func30, Tryd.ntmps30
  go_wp2_with fail
  have HL0 := Lib.hid (show L3 (w.alloc (.cells #[.int .i64 0, .int .i64 0, .int .i64 0] 59)) L 0 0 0 by rw [← hL]; exact World.alloc_heap_new w _)
  have HB0 := Lib.hid (show Below w.heap.size w (w.alloc (.cells #[.int .i64 0, .int .i64 0, .int .i64 0] 59)) from (Below.refl _ _).alloc (Nat.le_refl _) _)
  have HLL := Lib.hid hL
  clear hL
  go_loopw [5, 6] (fun kv iv wr => ∃ (i : Nat) (kk : Int), i ≤ 10 ∧ kv = .int .i64 kk ∧ iv = .int .i64 (i : Int) ∧ Hid (kk = (kOf i : Nat)) ∧ Hid (∀ p, p < i → okB s p) ∧ Hid (L3 wr L (vOf s 0 i) (vOf s 1 i) (vOf s 2 i)) ∧ Hid (Below w.heap.size w wr)) (fun _ iv _ => 10 - (intOf iv).toNat)
  case atStart => exact ⟨0, 0, by omega, rfl, rfl, Lib.hid rfl, Lib.hid (fun p hp => absurd hp (by omega)), HL0, HB0⟩
  case round =>
    clear HL0 HB0
    obtain ⟨i, kk, hi, rfl, rfl, HK, HOI, HLI, HB⟩ := hrel
    by_cases hlt : i < 10
    · have hlt' : (i : Int) < 10 := by omega
      by_cases h47 : i = 4 ∨ i = 7
      · rcases h47 with rfl | rfl
        · obtain rfl : kk = 0 := HK.out
          by_cases hg : gB s 4 = 45
          · have hc : (((s[4]'(by omega)).toNat : Int) != 45) = false := by rw [bne_eq_false_iff_eq, HAT.out, hg]; rfl
            have HO2 := Lib.hid (show ∀ p, p < 5 → okB s p from fun p hp => by
              by_cases e : p = 4
              · subst e; exact Or.inl ⟨by decide, hg⟩
              · exact HOI.out p (by omega))
            have HL2 := Lib.hid (show L3 wr L (vOf s 0 5) (vOf s 1 5) (vOf s 2 5) from HLI.out)
            clear hg
            go_wp2_with fail
            go_roundw
            case rel => exact ⟨5, 1, by omega, rfl, rfl, Lib.hid rfl, HO2, HL2, HB⟩
            case measure => decide
          · have hc : (((s[4]'(by omega)).toNat : Int) != 45) = true := by rw [bne_iff_ne, HAT.out]; exact fun e => hg (byte45.1 e)
            have hpr := HBAD.out 4 (by omega) (by rintro (⟨_, b⟩ | ⟨a, _⟩); exact hg b; exact a (by decide))
            rw [HR.out] at hpr
            obtain ⟨rfl, rfl⟩ := Prod.mk.inj hpr
            clear hg hpr HR HOK HBAD
            go_wp2_with fail
            go_ret2
            exact ⟨rfl, HB.out⟩
        · obtain rfl : kk = 1 := HK.out
          by_cases hg : gB s 7 = 45
          · have hc : (((s[7]'(by omega)).toNat : Int) != 45) = false := by rw [bne_eq_false_iff_eq, HAT.out, hg]; rfl
            have HO2 := Lib.hid (show ∀ p, p < 8 → okB s p from fun p hp => by
              by_cases e : p = 7
              · subst e; exact Or.inl ⟨by decide, hg⟩
              · exact HOI.out p (by omega))
            have HL2 := Lib.hid (show L3 wr L (vOf s 0 8) (vOf s 1 8) (vOf s 2 8) from HLI.out)
            clear hg
            go_wp2_with fail
            go_roundw
            case rel => exact ⟨8, 2, by omega, rfl, rfl, Lib.hid rfl, HO2, HL2, HB⟩
            case measure => decide
          · have hc : (((s[7]'(by omega)).toNat : Int) != 45) = true := by rw [bne_iff_ne, HAT.out]; exact fun e => hg (byte45.1 e)
            have hpr := HBAD.out 7 (by omega) (by rintro (⟨_, b⟩ | ⟨a, _⟩); exact hg b; exact a (by decide))
            rw [HR.out] at hpr
            obtain ⟨rfl, rfl⟩ := Prod.mk.inj hpr
            clear hg hpr HR HOK HBAD
            go_wp2_with fail
            go_ret2
            exact ⟨rfl, HB.out⟩
      · have h4 : ((i : Int) == 4) = false := by rw [beq_eq_false_iff_ne]; omega
        have h7 : ((i : Int) == 7) = false := by rw [beq_eq_false_iff_ne]; omega
        have hi9 : i < s.size := by omega
        have hbd : okB s i → (48 ≤ ((s[i]'hi9).toNat : Int) ∧ ((s[i]'hi9).toNat : Int) ≤ 57) := by
          rintro (⟨a, _⟩ | ⟨_, b⟩)
          · exact absurd a h47
          · rw [HAT.out]; exact isD_iff.1 b
        by_cases b1 : ((s[i]'hi9).toNat : Int) < 48
        · have hpr := HBAD.out i (by omega) (fun g => by have := hbd g; omega)
          rw [HR.out] at hpr
          obtain ⟨rfl, rfl⟩ := Prod.mk.inj hpr
          clear hpr HR HOK HBAD hbd h47
          go_wp2_with fail
          go_ret2
          exact ⟨rfl, HB.out⟩
        by_cases b2 : 57 < ((s[i]'hi9).toNat : Int)
        · have hpr := HBAD.out i (by omega) (fun g => by have := hbd g; omega)
          rw [HR.out] at hpr
          obtain ⟨rfl, rfl⟩ := Prod.mk.inj hpr
          clear hpr HR HOK HBAD hbd h47
          go_wp2_with fail
          go_ret2
          exact ⟨rfl, HB.out⟩
        have hO2 : ∀ p, p < i + 1 → okB s p := fun p hp => by
          by_cases e : p = i
          · subst e; exact Or.inr ⟨h47, isD_iff.2 (by rw [← HAT.out _ hi9]; omega)⟩
          · exact HOI.out p (by omega)
        have hvb := fun j => vOf_bound s j i HOI.out
        have h9 := pow_nine (i := i) (by omega)
        have hvs := fun j => (show vOf s j (i + 1) = if j = kOf i then 10 * vOf s j i + (gB s i).toNat - 48 else vOf s j i by show (if i = 4 ∨ i = 7 then _ else _) = _; rw [if_neg h47])
        have HGB := Lib.hid (HAT.out i hi9)
        have HO2 := Lib.hid hO2
        have hkn : kOf (i + 1) = kOf i := by
          unfold kOf
          by_cases a : i ≤ 4
          · rw [if_pos (by omega), if_pos a]
          · by_cases b : i ≤ 7
            · rw [if_neg (by omega), if_pos (by omega), if_neg a, if_pos b]
            · rw [if_neg (by omega), if_neg (by omega), if_neg a, if_neg b]
        have HKN := Lib.hid hkn
        have hkk : kOf i = 0 ∨ kOf i = 1 ∨ kOf i = 2 := by unfold kOf; split; exact Or.inl rfl; split; exact Or.inr (Or.inl rfl); exact Or.inr (Or.inr rfl)
        have hw1 : IntKind.i64.wrap ((i : Int) + 1) = (i : Int) + 1 := IntWalk.i64_in _ (by omega)
        have hu8 : IntKind.u8.wrap (((s[i]'hi9).toNat : Int) - 48) = ((s[i]'hi9).toNat : Int) - 48 := IntWalk.u8_in _ (by omega)
        obtain ⟨u0, e0⟩ : ∃ v, vOf s 0 i = v := ⟨_, rfl⟩
        obtain ⟨u1, e1⟩ : ∃ v, vOf s 1 i = v := ⟨_, rfl⟩
        obtain ⟨u2, e2⟩ : ∃ v, vOf s 2 i = v := ⟨_, rfl⟩
        have hl := HLI.out
        have b0 := hvb 0
        have b1' := hvb 1
        have b2' := hvb 2
        rw [e0] at b0
        rw [e1] at b1'
        rw [e2] at b2'
        rw [e0, e1, e2] at hl
        have HL := Lib.hid hl
        obtain ⟨x0, x1, x2⟩ := hl.cells
        have f0 := hl.frozen 0
        have f1 := hl.frozen 1
        have f2 := hl.frozen 2
        rcases hkk with hk | hk | hk
        · obtain rfl : kk = 0 := by rw [HK.out, hk]; rfl
          have hwa : IntKind.i64.wrap (10 * u0) = 10 * u0 := IntWalk.i64_in _ (by omega)
          have hwb : IntKind.i64.wrap (10 * u0 + (((s[i]'hi9).toNat : Int) - 48)) = 10 * u0 + (((s[i]'hi9).toNat : Int) - 48) := IntWalk.i64_in _ (by omega)
          have HN := Lib.hid (show ∀ V : World, V.heap = wr.heap → L3 (V.setCell ⟨L, 0, none⟩ (.int .i64 (10 * u0 + (((s[i]'hi9).toNat : Int) - 48)))) L (vOf s 0 (i + 1)) (vOf s 1 (i + 1)) (vOf s 2 (i + 1)) by
            intro V hV
            have hv' : L3 V L u0 u1 u2 := by unfold L3; rw [hV]; exact HL.out
            have := hv'.put0 (10 * u0 + (((s[i]'hi9).toNat : Int) - 48))
            rw [hvs 0, hvs 1, hvs 2, hk, e0, e1, e2]
            rw [if_pos (show (0 : Nat) = 0 from rfl), if_neg (show ¬ (1 : Nat) = 0 by decide), if_neg (show ¬ (2 : Nat) = 0 by decide)]
            rw [← HGB.out, show 10 * u0 + ((s[i]'hi9).toNat : Int) - 48 = 10 * u0 + (((s[i]'hi9).toNat : Int) - 48) by omega]
            exact this)
          have HKk := Lib.hid (show (0 : Int) = (kOf (i + 1) : Nat) by rw [HKN.out, hk]; rfl)
          clear hk hvs hvb h9 hkn hO2 hl e0 e1 e2 HK HOI HLI HOK HBAD HR hbd h47
          go_wp2_with fail
          go_region
          have HL2 := Lib.hid (show L3 (wr.setCell ⟨L, 0, none⟩ (.int .i64 (10 * u0 + (((s[i]'hi9).toNat : Int) - 48)))).drew L (vOf s 0 (i + 1)) (vOf s 1 (i + 1)) (vOf s 2 (i + 1)) from HN.out wr rfl)
          have HB2 := Lib.hid (show Below w.heap.size w (wr.setCell ⟨L, 0, none⟩ (.int .i64 (10 * u0 + (((s[i]'hi9).toNat : Int) - 48)))).drew from (HB.out.setCell (p := ⟨L, 0, none⟩) (show w.heap.size ≤ L by rw [HLL.out]; exact Nat.le_refl _) _).drew)
          go_wp2_with fail
          go_roundw
          case rel => exact ⟨i + 1, 0, by omega, rfl, by simp, HKk, HO2, HL2, HB2⟩
          case measure => simp [intOf]; omega
        · obtain rfl : kk = 1 := by rw [HK.out, hk]; rfl
          have hwa : IntKind.i64.wrap (10 * u1) = 10 * u1 := IntWalk.i64_in _ (by omega)
          have hwb : IntKind.i64.wrap (10 * u1 + (((s[i]'hi9).toNat : Int) - 48)) = 10 * u1 + (((s[i]'hi9).toNat : Int) - 48) := IntWalk.i64_in _ (by omega)
          have HN := Lib.hid (show ∀ V : World, V.heap = wr.heap → L3 (V.setCell ⟨L, 1, none⟩ (.int .i64 (10 * u1 + (((s[i]'hi9).toNat : Int) - 48)))) L (vOf s 0 (i + 1)) (vOf s 1 (i + 1)) (vOf s 2 (i + 1)) by
            intro V hV
            have hv' : L3 V L u0 u1 u2 := by unfold L3; rw [hV]; exact HL.out
            have := hv'.put1 (10 * u1 + (((s[i]'hi9).toNat : Int) - 48))
            rw [hvs 0, hvs 1, hvs 2, hk, e0, e1, e2]
            rw [if_neg (show ¬ (0 : Nat) = 1 by decide), if_pos (show (1 : Nat) = 1 from rfl), if_neg (show ¬ (2 : Nat) = 1 by decide)]
            rw [← HGB.out, show 10 * u1 + ((s[i]'hi9).toNat : Int) - 48 = 10 * u1 + (((s[i]'hi9).toNat : Int) - 48) by omega]
            exact this)
          have HKk := Lib.hid (show (1 : Int) = (kOf (i + 1) : Nat) by rw [HKN.out, hk]; rfl)
          clear hk hvs hvb h9 hkn hO2 hl e0 e1 e2 HK HOI HLI HOK HBAD HR hbd h47
          go_wp2_with fail
          go_region
          have HL2 := Lib.hid (show L3 (wr.setCell ⟨L, 1, none⟩ (.int .i64 (10 * u1 + (((s[i]'hi9).toNat : Int) - 48)))).drew L (vOf s 0 (i + 1)) (vOf s 1 (i + 1)) (vOf s 2 (i + 1)) from HN.out wr rfl)
          have HB2 := Lib.hid (show Below w.heap.size w (wr.setCell ⟨L, 1, none⟩ (.int .i64 (10 * u1 + (((s[i]'hi9).toNat : Int) - 48)))).drew from (HB.out.setCell (p := ⟨L, 1, none⟩) (show w.heap.size ≤ L by rw [HLL.out]; exact Nat.le_refl _) _).drew)
          go_wp2_with fail
          go_roundw
          case rel => exact ⟨i + 1, 1, by omega, rfl, by simp, HKk, HO2, HL2, HB2⟩
          case measure => simp [intOf]; omega
        · obtain rfl : kk = 2 := by rw [HK.out, hk]; rfl
          have hwa : IntKind.i64.wrap (10 * u2) = 10 * u2 := IntWalk.i64_in _ (by omega)
          have hwb : IntKind.i64.wrap (10 * u2 + (((s[i]'hi9).toNat : Int) - 48)) = 10 * u2 + (((s[i]'hi9).toNat : Int) - 48) := IntWalk.i64_in _ (by omega)
          have HN := Lib.hid (show ∀ V : World, V.heap = wr.heap → L3 (V.setCell ⟨L, 2, none⟩ (.int .i64 (10 * u2 + (((s[i]'hi9).toNat : Int) - 48)))) L (vOf s 0 (i + 1)) (vOf s 1 (i + 1)) (vOf s 2 (i + 1)) by
            intro V hV
            have hv' : L3 V L u0 u1 u2 := by unfold L3; rw [hV]; exact HL.out
            have := hv'.put2 (10 * u2 + (((s[i]'hi9).toNat : Int) - 48))
            rw [hvs 0, hvs 1, hvs 2, hk, e0, e1, e2]
            rw [if_neg (show ¬ (0 : Nat) = 2 by decide), if_neg (show ¬ (1 : Nat) = 2 by decide), if_pos (show (2 : Nat) = 2 from rfl)]
            rw [← HGB.out, show 10 * u2 + ((s[i]'hi9).toNat : Int) - 48 = 10 * u2 + (((s[i]'hi9).toNat : Int) - 48) by omega]
            exact this)
          have HKk := Lib.hid (show (2 : Int) = (kOf (i + 1) : Nat) by rw [HKN.out, hk]; rfl)
          clear hk hvs hvb h9 hkn hO2 hl e0 e1 e2 HK HOI HLI HOK HBAD HR hbd h47
          go_wp2_with fail
          go_region
          have HL2 := Lib.hid (show L3 (wr.setCell ⟨L, 2, none⟩ (.int .i64 (10 * u2 + (((s[i]'hi9).toNat : Int) - 48)))).drew L (vOf s 0 (i + 1)) (vOf s 1 (i + 1)) (vOf s 2 (i + 1)) from HN.out wr rfl)
          have HB2 := Lib.hid (show Below w.heap.size w (wr.setCell ⟨L, 2, none⟩ (.int .i64 (10 * u2 + (((s[i]'hi9).toNat : Int) - 48)))).drew from (HB.out.setCell (p := ⟨L, 2, none⟩) (show w.heap.size ≤ L by rw [HLL.out]; exact Nat.le_refl _) _).drew)
          go_wp2_with fail
          go_roundw
          case rel => exact ⟨i + 1, 2, by omega, rfl, by simp, HKk, HO2, HL2, HB2⟩
          case measure => simp [intOf]; omega
    · obtain rfl : i = 10 := by omega
      have hpr := HOK.out HOI.out
      rw [HR.out] at hpr
      obtain ⟨v0, e0⟩ : ∃ v, vOf s 0 10 = v := ⟨_, rfl⟩
      obtain ⟨v1, e1⟩ : ∃ v, vOf s 1 10 = v := ⟨_, rfl⟩
      obtain ⟨v2, e2⟩ : ∃ v, vOf s 2 10 = v := ⟨_, rfl⟩
      have hl := HLI.out
      rw [e0, e1, e2] at hl hpr
      have HO := Lib.hid (fun w => rOf v0 v1 v2 r1 r2 w hpr.symm)
      obtain ⟨c0, c1, c2⟩ := hl.cells
      clear hpr HOK HBAD HR e0 e1 e2 hl HLI
      go_wp2_with fail
      refine (HO.out _).mono ?_
      rintro _ _ ⟨rfl, rfl⟩
      go_wp2_with fail
      go_ret2
      exact ⟨rfl, HB.out⟩

set_option maxRecDepth 100000 in
set_option maxHeartbeats 8000000 in
theorem rParse_not (s : ByteArray) (w : World) (h : s.size ≠ 10) : Calls Tryd.prog 30 #[.string s] w (ParP (parseR s) w) := by
  have hb : ((s.size : Int) != 10) = true := by rw [bne_iff_ne]; omega
  rw [parseR_bad (fun g => h g.1)]
  clear h
  unfold ParP
  go_enter Tryd.func30, Tryd.ntmps30
  go_wp2_with fail
  go_ret2
  exact ⟨rfl, Below.refl _ _⟩
theorem rParse (s : ByteArray) (a e : Int) (w : World) (h : parseR s = (a, e)) :
    Calls Tryd.prog 30 #[.string s] w fun r w' => r = .returned (.tuple #[.int .i64 a, .int .i64 e]) ∧ Below w.heap.size w w' := by
  have h0 : Calls Tryd.prog 30 #[.string s] w (ParP (parseR s) w) := by
    by_cases g : s.size = 10
    · exact rParse_ten s w g
    · exact rParse_not s w g
  rw [h] at h0
  exact h0

end Go.Proofs.YtgpjadlnfofppaaDoor
