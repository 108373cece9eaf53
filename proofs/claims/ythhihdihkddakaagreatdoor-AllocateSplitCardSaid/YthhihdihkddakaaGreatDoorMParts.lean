/- The laws' size; the law AllocateParts: the walk. -/
import Derived.Test.YthhihdihkddakaaGreatDoorLA
namespace Go.Proofs.YthhihdihkddakaaGreatDoor
open Go.RowKit Fra

set_option maxRecDepth 100000 in
set_option maxHeartbeats 1000000 in
theorem rSize {z : Int} (hs : (cS z).size ≤ 4294967295) : Ret 34 #[.string (cS z)] (.string (cS (z.natAbs : Int))) := by
  intro w hG
  obtain ⟨c, hc⟩ : ∃ c, cmp3 z 0 = c := ⟨_, rfl⟩
  have HC := Lib.hid (compare_v w hs (by decide) (vS_cS z) vS_nil hc)
  by_cases h : z < 0
  · have hd : c < 0 := of_decide_eq_true ((by rw [← hc, cmp3_lt0]; exact decide_eq_true h : decide (c < 0) = true))
    have HN := Lib.hid (fun W => neg_v (z := (z.natAbs : Int)) W hs (vS_cS z) (by omega))
    obtain ⟨s, hS⟩ : ∃ s, cS z = s := ⟨_, rfl⟩
    rw [hS] at HC HN ⊢
    clear hs h hc hS
    go_enter Tryz.func34, Tryz.ntmps34
    go_wp2_with fail
    refine HC.out.mono ?_
    rintro _ w1 ⟨rfl, hB⟩
    go_wp2_with fail
    refine (HN.out _).mono ?_
    rintro _ w2 ⟨rfl, rfl⟩
    go_wp2_with fail
    go_ret
    exact ⟨rfl, hB⟩
  · have hd : ¬ c < 0 := of_decide_eq_false ((by rw [← hc, cmp3_lt0]; exact decide_eq_false h : decide (c < 0) = false))
    obtain ⟨s, hS⟩ : ∃ s, cS z = s := ⟨_, rfl⟩
    have HE := Lib.hid (show cS (z.natAbs : Int) = s by rw [← hS]; congr 1; omega)
    rw [hS] at HC
    rw [hS, HE.out]
    clear hs h hc hS HE
    go_enter Tryz.func34, Tryz.ntmps34
    go_wp2_with fail
    refine HC.out.mono ?_
    rintro _ w1 ⟨rfl, hB⟩
    go_wp2_with fail
    go_ret
    exact ⟨rfl, hB⟩

/-- the strings of a written list -/
def litS (l : List ByteArray) (i : Nat) : ByteArray := l.getD i ⟨#[]⟩
theorem Rs.lit (w : World) (l : List ByteArray) (ty : TypeId) : Rs (w.alloc (.cells (l.map Value.string).toArray ty)) (some ⟨w.heap.size, 0, none⟩) l.length (litS l) :=
  ⟨fun _ => ⟨w.heap.size, 0, rfl, by simp, fun i hi => by
    rw [cell_of_row _ _ _ _ _ _ (heap_alloc_new _ _)]
    simp [litS, hi]⟩⟩
theorem litS_all {l : List ByteArray} {k : Nat} (h : ∀ i, i < l.length → (litS l i).size ≤ k) : ∀ s ∈ l, s.size ≤ k := by
  intro s hs
  obtain ⟨i, hi, e⟩ := List.getElem_of_mem hs
  have := h i hi
  unfold litS at this
  simp [hi, e] at this
  exact this
theorem rGreat_lit (w : World) (hG : Ground w) (l : List ByteArray) (hl : l.length ≤ 12) :
    Calls Tryz.prog 12 #[.slice (some ⟨w.heap.size, 0, none⟩) l.length l.length] (w.alloc (.cells (l.map Value.string).toArray 22)) fun e w' => e = .returned (.bool (great l.length (litS l))) ∧ Below w.heap.size w w' :=
  (rGreat _ (hG.alloc _) _ _ _ _ (Rs.lit w l _) (by omega)).mono fun _ _ h => ⟨h.1, ((Below.refl _ w).alloc (Nat.le_refl _) _).trans (h.2.mono (by simp))⟩

set_option maxRecDepth 100000 in
set_option maxHeartbeats 4000000 in
theorem apa_long (t a b q : ByteArray) (w : World) (hG : Ground w) (hl : great 4 (litS [t, a, b, q]) = true) :
    Calls Tryz.prog 10 #[.string t, .string a, .string b, .string q] w fun e w' => e = .returned (.bool true) ∧ Below w.heap.size w w' := by
  have HL := Lib.hid (rGreat_lit w hG [t, a, b, q] (by simp))
  simp only [List.length_cons, List.length_nil, Nat.zero_add, Nat.reduceAdd, List.map_cons, List.map_nil] at HL
  rw [hl] at HL
  have HG := Lib.hid hG
  have HAW := Lib.hid aawake
  clear hl hG
  go_enter Tryz.func10, Tryz.ntmps10
  go_wp2_with fail
  refine HL.out.mono ?_
  rintro _ w0 ⟨rfl, hb⟩
  go_wp2_with fail
  refine (HAW.out _ (HG.out.below hb)).mono ?_
  rintro _ w1 ⟨rfl, hB⟩
  replace hb := hb.trans (hB.mono hb.size)
  clear hB
  go_wp2_with fail
  go_ret
  exact ⟨rfl, hb⟩

set_option maxRecDepth 100000 in
set_option maxHeartbeats 4000000 in
theorem apa_bad (t a b q : ByteArray) (w : World) (hG : Ground w) (hl : great 4 (litS [t, a, b, q]) = false) {y r2 : ByteArray} {e f : Int} (h1 : Ret 26 #[.string t, .string a, .string q] (shareV ⟨#[]⟩ ⟨#[]⟩ e)) (h2 : Ret 26 #[.string t, .string b, .string q] (shareV y r2 f)) (he : e ≠ 0) :
    Calls Tryz.prog 10 #[.string t, .string a, .string b, .string q] w fun e w' => e = .returned (.bool true) ∧ Below w.heap.size w w' := by
  have HL := Lib.hid (rGreat_lit w hG [t, a, b, q] (by simp))
  simp only [List.length_cons, List.length_nil, Nat.zero_add, Nat.reduceAdd, List.map_cons, List.map_nil] at HL
  rw [hl] at HL
  have HG := Lib.hid hG
  have HAW := Lib.hid aawake
  clear hl hG
  have H1 := Lib.hid h1
  have H2 := Lib.hid h2
  clear h1 h2
  have hb1 : (e != 0) = true := by rw [bne_iff_ne]; exact he
  clear he
  go_enter Tryz.func10, Tryz.ntmps10
  go_wp2_with fail
  refine HL.out.mono ?_
  rintro _ w0 ⟨rfl, hb⟩
  go_wp2_with fail
  refine (H1.out _ (HG.out.below hb)).mono ?_
  rintro _ w1 ⟨rfl, hB⟩
  replace hb := hb.trans (hB.mono hb.size)
  clear hB
  go_wp2_with fail
  refine (H2.out _ (HG.out.below hb)).mono ?_
  rintro _ w2 ⟨rfl, hB⟩
  replace hb := hb.trans (hB.mono hb.size)
  clear hB
  go_wp2_with fail
  refine (HAW.out _ (HG.out.below hb)).mono ?_
  rintro _ w3 ⟨rfl, hB⟩
  replace hb := hb.trans (hB.mono hb.size)
  clear hB
  go_wp2_with fail
  go_ret
  exact ⟨rfl, hb⟩

set_option maxRecDepth 100000 in
set_option maxHeartbeats 4000000 in
theorem apa_one (t a b q : ByteArray) (w : World) (hG : Ground w) (hl : great 4 (litS [t, a, b, q]) = false) {x r y r2 u : ByteArray} {f : Int} (h1 : Ret 26 #[.string t, .string a, .string q] (shareV x r 0)) (h2 : Ret 26 #[.string t, .string b, .string q] (shareV y r2 f)) (h3 : Ret 26 #[.string t, .string ⟨#[]⟩, .string q] (shareV ⟨#[]⟩ u 0)) (h4 : Ret 26 #[.string t, .string q, .string q] (shareV t ⟨#[]⟩ 0)) (h5 : Ret 42 #[.string x, .string r] (.string t)) (he : f ≠ 0) :
    Calls Tryz.prog 10 #[.string t, .string a, .string b, .string q] w fun e w' => e = .returned (.bool true) ∧ Below w.heap.size w w' := by
  have HL := Lib.hid (rGreat_lit w hG [t, a, b, q] (by simp))
  simp only [List.length_cons, List.length_nil, Nat.zero_add, Nat.reduceAdd, List.map_cons, List.map_nil] at HL
  rw [hl] at HL
  have HG := Lib.hid hG
  have HAW := Lib.hid aawake
  clear hl hG
  have H1 := Lib.hid h1
  have H2 := Lib.hid h2
  have H3 := Lib.hid h3
  have H4 := Lib.hid h4
  have H5 := Lib.hid h5
  clear h1 h2 h3 h4 h5
  have hb1 : (f != 0) = true := by rw [bne_iff_ne]; exact he
  clear he
  go_enter Tryz.func10, Tryz.ntmps10
  go_wp2_with fail
  refine HL.out.mono ?_
  rintro _ w0 ⟨rfl, hb⟩
  go_wp2_with fail
  refine (H1.out _ (HG.out.below hb)).mono ?_
  rintro _ w1 ⟨rfl, hB⟩
  replace hb := hb.trans (hB.mono hb.size)
  clear hB
  go_wp2_with fail
  refine (H2.out _ (HG.out.below hb)).mono ?_
  rintro _ w2 ⟨rfl, hB⟩
  replace hb := hb.trans (hB.mono hb.size)
  clear hB
  go_wp2_with fail
  refine (H3.out _ (HG.out.below hb)).mono ?_
  rintro _ w3 ⟨rfl, hB⟩
  replace hb := hb.trans (hB.mono hb.size)
  clear hB
  go_wp2_with fail
  refine (H4.out _ (HG.out.below hb)).mono ?_
  rintro _ w4 ⟨rfl, hB⟩
  replace hb := hb.trans (hB.mono hb.size)
  clear hB
  go_wp2_with fail
  refine (H5.out _ (HG.out.below hb)).mono ?_
  rintro _ w5 ⟨rfl, hB⟩
  replace hb := hb.trans (hB.mono hb.size)
  clear hB
  go_wp2_with fail
  refine (HAW.out _ (HG.out.below hb)).mono ?_
  rintro _ w6 ⟨rfl, hB⟩
  replace hb := hb.trans (hB.mono hb.size)
  clear hB
  go_wp2_with fail
  go_ret
  exact ⟨rfl, hb⟩

set_option maxRecDepth 100000 in
set_option maxHeartbeats 4000000 in
theorem apa_both (t a b q : ByteArray) (w : World) (hG : Ground w) (hl : great 4 (litS [t, a, b, q]) = false) {x r y r2 u sx sy : ByteArray} {c d : Int} (h1 : Ret 26 #[.string t, .string a, .string q] (shareV x r 0)) (h2 : Ret 26 #[.string t, .string b, .string q] (shareV y r2 0)) (h3 : Ret 26 #[.string t, .string ⟨#[]⟩, .string q] (shareV ⟨#[]⟩ u 0)) (h4 : Ret 26 #[.string t, .string q, .string q] (shareV t ⟨#[]⟩ 0)) (h5 : Ret 42 #[.string x, .string r] (.string t)) (h6 : Ret 33 #[.string a, .string b] (.int .i64 c)) (h7 : Ret 34 #[.string x] (.string sx)) (h8 : Ret 34 #[.string y] (.string sy)) (h9 : Ret 33 #[.string sx, .string sy] (.int .i64 d)) (hcd : 0 ≤ c * d) (hw : IntKind.i64.wrap (c * d) = c * d) :
    Calls Tryz.prog 10 #[.string t, .string a, .string b, .string q] w fun e w' => e = .returned (.bool true) ∧ Below w.heap.size w w' := by
  have HL := Lib.hid (rGreat_lit w hG [t, a, b, q] (by simp))
  simp only [List.length_cons, List.length_nil, Nat.zero_add, Nat.reduceAdd, List.map_cons, List.map_nil] at HL
  rw [hl] at HL
  have HG := Lib.hid hG
  have HAW := Lib.hid aawake
  clear hl hG
  have H1 := Lib.hid h1
  have H2 := Lib.hid h2
  have H3 := Lib.hid h3
  have H4 := Lib.hid h4
  have H5 := Lib.hid h5
  have H6 := Lib.hid h6
  have H7 := Lib.hid h7
  have H8 := Lib.hid h8
  have H9 := Lib.hid h9
  clear h1 h2 h3 h4 h5 h6 h7 h8 h9
  go_enter Tryz.func10, Tryz.ntmps10
  go_wp2_with fail
  refine HL.out.mono ?_
  rintro _ w0 ⟨rfl, hb⟩
  go_wp2_with fail
  refine (H1.out _ (HG.out.below hb)).mono ?_
  rintro _ w1 ⟨rfl, hB⟩
  replace hb := hb.trans (hB.mono hb.size)
  clear hB
  go_wp2_with fail
  refine (H2.out _ (HG.out.below hb)).mono ?_
  rintro _ w2 ⟨rfl, hB⟩
  replace hb := hb.trans (hB.mono hb.size)
  clear hB
  go_wp2_with fail
  refine (H3.out _ (HG.out.below hb)).mono ?_
  rintro _ w3 ⟨rfl, hB⟩
  replace hb := hb.trans (hB.mono hb.size)
  clear hB
  go_wp2_with fail
  refine (H4.out _ (HG.out.below hb)).mono ?_
  rintro _ w4 ⟨rfl, hB⟩
  replace hb := hb.trans (hB.mono hb.size)
  clear hB
  go_wp2_with fail
  refine (H5.out _ (HG.out.below hb)).mono ?_
  rintro _ w5 ⟨rfl, hB⟩
  replace hb := hb.trans (hB.mono hb.size)
  clear hB
  go_wp2_with fail
  refine (H6.out _ (HG.out.below hb)).mono ?_
  rintro _ w6 ⟨rfl, hB⟩
  replace hb := hb.trans (hB.mono hb.size)
  clear hB
  go_wp2_with fail
  refine (H7.out _ (HG.out.below hb)).mono ?_
  rintro _ w7 ⟨rfl, hB⟩
  replace hb := hb.trans (hB.mono hb.size)
  clear hB
  go_wp2_with fail
  refine (H8.out _ (HG.out.below hb)).mono ?_
  rintro _ w8 ⟨rfl, hB⟩
  replace hb := hb.trans (hB.mono hb.size)
  clear hB
  go_wp2_with fail
  refine (H9.out _ (HG.out.below hb)).mono ?_
  rintro _ w9 ⟨rfl, hB⟩
  replace hb := hb.trans (hB.mono hb.size)
  clear hB
  go_wp2_with fail
  refine (HAW.out _ (HG.out.below hb)).mono ?_
  rintro _ w10 ⟨rfl, hB⟩
  replace hb := hb.trans (hB.mono hb.size)
  clear hB
  go_wp2_with fail
  go_ret
  exact ⟨rfl, hb⟩

theorem rnd_cap4 {k : Nat} {m : Int} {x : Int × Int} (h : Cap k x.1) (hx : 0 < x.2) : Cap (k + 2) (rnd m x) := by
  have h1 := Cap.fdiv' h hx
  rcases rnd_range m (x := x) with e | e
  · rw [e]; exact h1.mono (by omega)
  · rw [e]; exact h1.add (Cap.one (by omega))
theorem share_mono {T A B Q : Int} (hQ : 0 < Q) (hB : 0 ≤ B) (h : B ≤ A) : (rnd 1 (T * B, Q)).natAbs ≤ (rnd 1 (T * A, Q)).natAbs := by
  have z : rnd 1 ((0 : Int), Q) = 0 := by have := rnd_exact (m := 1) (n := 0) hQ; rwa [Int.zero_mul] at this
  rcases Int.le_total 0 T with hT | hT
  · have h1 : 0 ≤ T * B := Int.mul_nonneg hT hB
    have h2 : T * B ≤ T * A := Int.mul_le_mul_of_nonneg_left h hT
    have h3 := rnd_mono_same (m := 1) hQ h1
    have h4 := rnd_mono_same (m := 1) hQ h2
    rw [z] at h3
    omega
  · have h1 : T * B ≤ 0 := by have := Int.mul_le_mul_of_nonneg_right hT hB; rwa [Int.zero_mul] at this
    have h2 : T * A ≤ T * B := Int.mul_le_mul_of_nonpos_left hT h
    have h3 := rnd_mono_same (m := 1) hQ h1
    have h4 := rnd_mono_same (m := 1) hQ h2
    rw [z] at h3
    omega
theorem cmp_prod {A B : Int} {x y : Nat} (h1 : B ≤ A → y ≤ x) (h2 : A ≤ B → x ≤ y) : 0 ≤ cmp3 A B * cmp3 (x : Int) (y : Int) ∧ IntKind.i64.wrap (cmp3 A B * cmp3 (x : Int) (y : Int)) = cmp3 A B * cmp3 (x : Int) (y : Int) := by
  have a1 := cmp3_range A B
  have a2 := cmp3_range (x : Int) (y : Int)
  have b1 := cmp3_pos A B
  have b2 := cmp3_zero A B
  have c1 := cmp3_pos (x : Int) (y : Int)
  have c2 := cmp3_zero (x : Int) (y : Int)
  obtain ⟨c, hc⟩ : ∃ c, cmp3 A B = c := ⟨_, rfl⟩
  obtain ⟨d, hd⟩ : ∃ d, cmp3 (x : Int) (y : Int) = d := ⟨_, rfl⟩
  rw [hc] at a1 b1 b2 ⊢
  rw [hd] at a2 c1 c2 ⊢
  have hp : 0 ≤ c * d ∧ c * d ≤ 1 := by
    rcases (show c = -1 ∨ c = 0 ∨ c = 1 by omega) with rfl | rfl | rfl <;> rcases (show d = -1 ∨ d = 0 ∨ d = 1 by omega) with rfl | rfl | rfl <;> omega
  exact ⟨hp.1, by rw [IntKind.wrap_i64]; omega⟩

/-- what shareE says where it says nothing -/
structure ShareOk (t p q : ByteArray) : Prop where
  te : t = cS (vS t)
  pc : isCan p = true
  qc : isCan q = true
  tc : isCan t = true
  pos : 0 < vS q
  p0 : 0 ≤ vS p
  pq : vS p ≤ vS q
theorem shareE_ok {t p q : ByteArray} (h : shareE t p q = 0) : ShareOk t p q := by
  unfold shareE at h
  by_cases h1 : can3 t p q = false
  · rw [if_pos h1] at h; omega
  rw [if_neg h1] at h
  by_cases h2 : vS q = 0
  · rw [if_pos h2] at h; omega
  rw [if_neg h2] at h
  by_cases h3 : vS p < 0 ∨ vS q < vS p
  · rw [if_pos h3] at h; omega
  have h1' : can3 t p q = true := by simpa using h1
  unfold can3 at h1'
  simp at h1'
  exact ⟨can_eq h1'.1, h1'.2.1, h1'.2.2, h1'.1, by omega, by omega, by omega⟩
theorem ShareOk.shareE {t p q : ByteArray} (h : ShareOk t p q) : shareE t p q = 0 := by
  unfold YthhihdihkddakaaGreatDoor.shareE
  rw [if_neg (by unfold can3; rw [h.tc, h.pc, h.qc]; decide), if_neg (by have := h.pos; omega), if_neg (by have := h.p0; have := h.pq; omega)]
theorem share_ret {t p q : ByteArray} (ht : t.size ≤ 30) (hp : p.size ≤ 30) (hq : q.size ≤ 30) (h : ShareOk t p q) {z : Int} (hz : rnd 1 (vS t * vS p, vS q) = z) : Ret 26 #[.string t, .string p, .string q] (shareV (cS z) (cS (vS t - z)) 0) := by
  refine aShare_ok (by omega) (by omega) (by omega) h.shareE h.pos hz ?_
  have h1 : Cap 60 (vS t * vS p) := Cap.mul (Cap.of ht rfl) (Cap.of hp rfl)
  have h2 := rnd_cap4 (m := 1) (x := (vS t * vS p, vS q)) h1 h.pos
  rw [hz] at h2
  have := cS_size h2
  omega
theorem share_some {t p q : ByteArray} (ht : t.size ≤ 30) (hp : p.size ≤ 30) (hq : q.size ≤ 30) : ∃ x r e, Ret 26 #[.string t, .string p, .string q] (shareV x r e) := by
  by_cases h : shareE t p q = 0
  · exact ⟨_, _, _, share_ret ht hp hq (shareE_ok h) rfl⟩
  · exact ⟨_, _, _, aShare_bad (aChk (by omega) (by omega) (by omega)) h⟩

theorem apa_any (t a b q : ByteArray) (w : World) (hG : Ground w) :
    Calls Tryz.prog 10 #[.string t, .string a, .string b, .string q] w fun e w' => e = .returned (.bool true) ∧ Below w.heap.size w w' := by
  cases hl : great 4 (litS [t, a, b, q]) with
  | true => exact apa_long t a b q w hG hl
  | false =>
    have hall := litS_all (l := [t, a, b, q]) (great_false hl).2
    have ht : t.size ≤ 30 := hall t (by simp)
    have ha : a.size ≤ 30 := hall a (by simp)
    have hb : b.size ≤ 30 := hall b (by simp)
    have hq : q.size ≤ 30 := hall q (by simp)
    by_cases he : shareE t a q = 0
    · have hok := shareE_ok he
      have h1 := share_ret ht ha hq hok rfl
      have hok0 : ShareOk t ⟨#[]⟩ q := ⟨hok.te, by decide +kernel, hok.qc, hok.tc, hok.pos, by decide +kernel, by have := hok.pos; rw [vS_nil]; omega⟩
      have hokq : ShareOk t q q := ⟨hok.te, hok.qc, hok.qc, hok.tc, hok.pos, by have := hok.pos; omega, Int.le_refl _⟩
      have h3 := share_ret ht (by decide) hq hok0 (z := 0) (by rw [vS_nil]; have := rnd_exact (m := 1) (n := 0) hok.pos; rw [Int.zero_mul] at this; rw [Int.mul_zero]; exact this)
      have h4 := share_ret ht hq hq hokq (z := vS t) (rnd_exact hok.pos)
      rw [cS_zero] at h3
      rw [Int.sub_self, cS_zero, ← hok.te] at h4
      obtain ⟨z, hz⟩ : ∃ z, rnd 1 (vS t * vS a, vS q) = z := ⟨_, rfl⟩
      rw [hz] at h1
      have hzc : Cap 62 z := by rw [← hz]; exact rnd_cap4 (Cap.mul (Cap.of ht rfl) (Cap.of ha rfl)) hok.pos
      have hzs := cS_size hzc
      have hrs := cS_size (Cap.sub ((Cap.of ht rfl : Cap 30 (vS t)).mono (l := 62) (by decide)) hzc)
      have h5 : Ret 42 #[.string (cS z), .string (cS (vS t - z))] (.string t) := fun W hW => by
        have := add_v (z := vS t) W hW (a := cS z) (b := cS (vS t - z)) (by omega) (by omega) (vS_cS _) (vS_cS _) (by omega)
        unfold StrPost at this
        rw [← hok.te] at this
        exact this
      by_cases hf : shareE t b q = 0
      · have hokb := shareE_ok hf
        have h2 := share_ret ht hb hq hokb rfl
        obtain ⟨y, hy⟩ : ∃ y, rnd 1 (vS t * vS b, vS q) = y := ⟨_, rfl⟩
        rw [hy] at h2
        have hyc : Cap 62 y := by rw [← hy]; exact rnd_cap4 (Cap.mul (Cap.of ht rfl) (Cap.of hb rfl)) hok.pos
        have hys := cS_size hyc
        have hcd := cmp_prod (A := vS a) (B := vS b) (x := z.natAbs) (y := y.natAbs) (fun h => by rw [← hz, ← hy]; exact share_mono hok.pos hokb.p0 h) (fun h => by rw [← hz, ← hy]; exact share_mono hok.pos hok.p0 h)
        have hz2 := cS_size (z := (z.natAbs : Int)) (k := 62) (by have := hzc; unfold Cap at this; omega)
        have hy2 := cS_size (z := (y.natAbs : Int)) (k := 62) (by have := hyc; unfold Cap at this; omega)
        exact apa_both t a b q w hG hl h1 h2 h3 h4 h5 (fun W _ => compare_v W (by omega) (by omega) rfl rfl rfl) (rSize (by omega)) (rSize (by omega)) (fun W _ => compare_v W (by omega) (by omega) (vS_cS _) (vS_cS _) rfl) hcd.1 hcd.2
      · exact apa_one t a b q w hG hl h1 (aShare_bad (aChk (by omega) (by omega) (by omega)) hf) h3 h4 h5 hf
    · obtain ⟨y, r2, f, h2⟩ := share_some ht hb hq
      exact apa_bad t a b q w hG hl (aShare_bad (aChk (by omega) (by omega) (by omega)) he) h2 he

end Go.Proofs.YthhihdihkddakaaGreatDoor
