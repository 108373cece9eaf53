/- the law AllocateShares: the walk. -/
import Derived.Test.YthhihdihkddakaaGreatDoorZShT
import Derived.Test.YthhihdihkddakaaGreatDoorZShU
namespace Go.Proofs.YthhihdihkddakaaGreatDoor
open Go.RowKit Fra

/-- m strings f and the error c -/
def ShPost (m : Nat) (c : Int) (f : Nat → ByteArray) (W : World) (e : Ending) (w' : World) : Prop := ∃ ya cy, e = .returned (.tuple #[.slice ya m cy, .int .i64 c]) ∧ Rs w' ya m f ∧ Below W.heap.size W w'
/-- from a slice of the fractions u, v -/
def OnF (F : FuncId) (t : ByteArray) (n : Nat) (u v : Nat → ByteArray) (Q : World → Ending → World → Prop) : Prop := ∀ W xa cap, Ground W → Rf W xa n u v → Calls Tryz.prog F #[.string t, .slice xa n cap] W (Q W)
theorem sh_nil {c : Int} {W : World} {e : Ending} {w' : World} (h : e = .returned (nilE c) ∧ Below W.heap.size W w') : ShPost 0 c (fun _ => ⟨#[]⟩) W e w' := ⟨none, 0, h.1, Rc.nil _ _ _, h.2⟩
theorem both_frac {t : ByteArray} {n : Nat} {u v : Nat → ByteArray} (hf : FitG n t u v) :
    ∃ m c f, m ≤ 1000 ∧ OnF 28 t n u v (ShPost m c f) ∧ OnF 29 t n u v (ShPost m c f) := by
  have hF := hf.fitF
  by_cases h : fracE t n u v = 0
  · have hd := fracE_zero hF h
    have hn := hd.few
    by_cases hs : Num.sumN (wfN u v n) n = Num.lcmD (deN u v) n
    · have hca := Num.common_any (n := n) (X := Num.prodD (deN u v) n) (nu := nuN u v) (de := deN u v) (fun i hi => hd.den0 i hi) (Num.prodD_pos fun i hi => hd.den0 i hi) (fun i hi => Num.dvd_prodD hi)
      refine ⟨n, 0, fun i => cS (Num.splitP (vS t) (Num.lcmD (deN u v) n) (wfN u v n) n i), by omega, fun W xa cap hG hr => (aFrac_ok W hG t xa n cap u v hr hF h hs).mono ?_, fun W xa cap hG hr => (rFrac_ok W hG t xa n cap u v hr hf h (hca.1.2 hs)).mono ?_⟩
      · rintro e w' ⟨P, e1, hP, hB⟩; exact ⟨_, _, e1, hP.rc, hB⟩
      · rintro e w' ⟨P, e1, hP, hB⟩
        exact ⟨_, _, e1, (hP.congr fun i hi => by rw [hca.2 (vS t) i hi]; rfl).rc, hB⟩
    · have hca := Num.common_any (n := n) (X := Num.prodD (deN u v) n) (nu := nuN u v) (de := deN u v) (fun i hi => hd.den0 i hi) (Num.prodD_pos fun i hi => hd.den0 i hi) (fun i hi => Num.dvd_prodD hi)
      exact ⟨0, 9, fun _ => ⟨#[]⟩, by omega, fun W xa cap hG hr => (aFrac_sum W hG t xa n cap u v hr hF h hs).mono fun _ _ => sh_nil, fun W xa cap hG hr => (rFrac_sum W hG t xa n cap u v hr hf h (fun e => hs (hca.1.1 e))).mono fun _ _ => sh_nil⟩
  · exact ⟨0, fracE t n u v, fun _ => ⟨#[]⟩, by omega, fun W xa cap hG hr => (aFrac_bad W hG t xa n cap u v hr hF h).mono fun _ _ => sh_nil, fun W xa cap hG hr => (rFrac_bad W hG t xa n cap u v hr hf h).mono fun _ _ => sh_nil⟩

/-- a fraction with a number of over 12 bytes -/
def wideF (u v : ByteArray) : Bool := decide (12 < u.size) || decide (12 < v.size)
set_option maxRecDepth 100000 in
set_option maxHeartbeats 16000000 in
theorem rWide_num {u v : ByteArray} (h : 12 < u.size) : Ret 25 #[.agg #[.string u, .string v]] (.bool true) := by
  intro w hG
  have h1 : (12 : Int) < (u.size : Int) := by omega
  obtain ⟨W0, hW0⟩ : ∃ W0, W0 = w.alloc (.cells #[.string u, .string v] 36) := ⟨_, rfl⟩
  have hB : Below w.heap.size w W0 := by rw [hW0]; exact (Below.refl _ _).alloc (Nat.le_refl _) _
  have hP : PairAt W0 w.heap.size 36 u v := by rw [hW0]; exact PairAt.made _ _ _ _
  clear h hG
  go_enter Tryz.func25, Tryz.ntmps25
  go_upto_region 1 with fail
  rw [← hW0]
  clear hW0
  obtain ⟨c4, c5, _, _⟩ := hP.cells
  go_wp2_with fail
  go_ret
  exact ⟨rfl, hB⟩

set_option maxRecDepth 100000 in
set_option maxHeartbeats 16000000 in
theorem rWide_den {u v : ByteArray} (h : ¬ 12 < u.size ∧ 12 < v.size) : Ret 25 #[.agg #[.string u, .string v]] (.bool true) := by
  intro w hG
  have h1 : ¬ (12 : Int) < (u.size : Int) := by omega
  have h2 : (12 : Int) < (v.size : Int) := by omega
  obtain ⟨W0, hW0⟩ : ∃ W0, W0 = w.alloc (.cells #[.string u, .string v] 36) := ⟨_, rfl⟩
  have hB : Below w.heap.size w W0 := by rw [hW0]; exact (Below.refl _ _).alloc (Nat.le_refl _) _
  have hP : PairAt W0 w.heap.size 36 u v := by rw [hW0]; exact PairAt.made _ _ _ _
  clear h hG
  go_enter Tryz.func25, Tryz.ntmps25
  go_upto_region 1 with fail
  rw [← hW0]
  clear hW0
  obtain ⟨c4, c5, _, _⟩ := hP.cells
  go_wp2_with fail
  go_ret
  exact ⟨rfl, hB⟩

set_option maxRecDepth 100000 in
set_option maxHeartbeats 16000000 in
theorem rWide_no {u v : ByteArray} (h : ¬ 12 < u.size ∧ ¬ 12 < v.size) : Ret 25 #[.agg #[.string u, .string v]] (.bool false) := by
  intro w hG
  have h1 : ¬ (12 : Int) < (u.size : Int) := by omega
  have h2 : ¬ (12 : Int) < (v.size : Int) := by omega
  obtain ⟨W0, hW0⟩ : ∃ W0, W0 = w.alloc (.cells #[.string u, .string v] 36) := ⟨_, rfl⟩
  have hB : Below w.heap.size w W0 := by rw [hW0]; exact (Below.refl _ _).alloc (Nat.le_refl _) _
  have hP : PairAt W0 w.heap.size 36 u v := by rw [hW0]; exact PairAt.made _ _ _ _
  clear h hG
  go_enter Tryz.func25, Tryz.ntmps25
  go_upto_region 1 with fail
  rw [← hW0]
  clear hW0
  obtain ⟨c4, c5, _, _⟩ := hP.cells
  go_wp2_with fail
  go_ret
  exact ⟨rfl, hB⟩

theorem rWide (u v : ByteArray) : Ret 25 #[.agg #[.string u, .string v]] (.bool (wideF u v)) := by
  unfold wideF
  by_cases h1 : 12 < u.size
  · rw [decide_eq_true h1]; exact rWide_num h1
  · by_cases h2 : 12 < v.size
    · rw [decide_eq_true h2, decide_eq_false h1]; exact rWide_den ⟨h1, h2⟩
    · rw [decide_eq_false h2, decide_eq_false h1]; exact rWide_no ⟨h1, h2⟩
def wides (n : Nat) (u v : Nat → ByteArray) : Bool := (List.range n).any fun i => wideF (u i) (v i)
theorem wides_false {n : Nat} {u v : Nat → ByteArray} (h : wides n u v = false) : ∀ i, i < n → (u i).size ≤ 12 ∧ (v i).size ≤ 12 := fun i hi => by
  unfold wides at h
  rw [List.any_eq_false] at h
  have := h i (List.mem_range.2 hi)
  unfold wideF at this
  simp at this
  omega

set_option maxRecDepth 100000 in
set_option maxHeartbeats 16000000 in
theorem ass_long (t p q : ByteArray) (xa : Option Addr) (n cap : Nat) (w : World) (hG : Ground w) (ht : great 3 (litS [t, p, q]) = true) :
    Calls Tryz.prog 4 #[.string t, .string p, .string q, .slice xa n cap] w fun r w' => r = .returned (.bool true) ∧ Below w.heap.size w w' := by
  have HL := Lib.hid (rGreat_lit w hG [t, p, q] (by simp))
  simp only [List.length_cons, List.length_nil, Nat.zero_add, Nat.reduceAdd, List.map_cons, List.map_nil] at HL
  rw [ht] at HL
  have HG := Lib.hid hG
  have HAW := Lib.hid aawake
  clear ht hG
  go_enter Tryz.func4, Tryz.ntmps4
  go_wp2_with fail
  refine HL.out.mono ?_
  rintro _ w0 ⟨rfl, hb⟩
  go_wp2_with fail
  refine (HAW.out _ (HG.out.below hb)).mono ?_
  rintro _ _ ⟨rfl, hB⟩
  replace hb := hb.trans (hB.mono hb.size)
  clear hB
  go_wp2_with fail
  go_ret
  exact ⟨rfl, hb⟩

set_option maxRecDepth 100000 in
set_option maxHeartbeats 16000000 in
theorem ass_mid (t p q : ByteArray) (xa : Option Addr) (n cap : Nat) (w : World) (hG : Ground w) (ht : great 3 (litS [t, p, q]) = false) (h1 : 6 < n) (h2 : n ≤ 1000) :
    Calls Tryz.prog 4 #[.string t, .string p, .string q, .slice xa n cap] w fun r w' => r = .returned (.bool true) ∧ Below w.heap.size w w' := by
  have HL := Lib.hid (rGreat_lit w hG [t, p, q] (by simp))
  simp only [List.length_cons, List.length_nil, Nat.zero_add, Nat.reduceAdd, List.map_cons, List.map_nil] at HL
  rw [ht] at HL
  have HG := Lib.hid hG
  have HAW := Lib.hid aawake
  have i1 : (6 : Int) < n := by omega
  have i2 : (n : Int) ≤ 1000 := by omega
  clear ht hG h1 h2
  go_enter Tryz.func4, Tryz.ntmps4
  go_wp2_with fail
  refine HL.out.mono ?_
  rintro _ w0 ⟨rfl, hb⟩
  go_wp2_with fail
  refine (HAW.out _ (HG.out.below hb)).mono ?_
  rintro _ _ ⟨rfl, hB⟩
  replace hb := hb.trans (hB.mono hb.size)
  clear hB
  go_wp2_with fail
  go_ret
  exact ⟨rfl, hb⟩

set_option maxRecDepth 100000 in
set_option maxHeartbeats 16000000 in
theorem ass_top (t p q : ByteArray) (xa : Option Addr) (n cap : Nat) (w : World) (hG : Ground w) (ht : great 3 (litS [t, p, q]) = false) (h1 : 1005 < n) :
    Calls Tryz.prog 4 #[.string t, .string p, .string q, .slice xa n cap] w fun r w' => r = .returned (.bool true) ∧ Below w.heap.size w w' := by
  have HL := Lib.hid (rGreat_lit w hG [t, p, q] (by simp))
  simp only [List.length_cons, List.length_nil, Nat.zero_add, Nat.reduceAdd, List.map_cons, List.map_nil] at HL
  rw [ht] at HL
  have HG := Lib.hid hG
  have HAW := Lib.hid aawake
  have i1 : (6 : Int) < n := by omega
  have i2 : ¬ (n : Int) ≤ 1000 := by omega
  have i3 : (1005 : Int) < n := by omega
  clear ht hG h1
  go_enter Tryz.func4, Tryz.ntmps4
  go_wp2_with fail
  refine HL.out.mono ?_
  rintro _ w0 ⟨rfl, hb⟩
  go_wp2_with fail
  refine (HAW.out _ (HG.out.below hb)).mono ?_
  rintro _ _ ⟨rfl, hB⟩
  replace hb := hb.trans (hB.mono hb.size)
  clear hB
  go_wp2_with fail
  go_ret
  exact ⟨rfl, hb⟩

set_option maxRecDepth 100000 in
set_option maxHeartbeats 16000000 in
theorem ass_wide1 (t p q : ByteArray) (xa : Option Addr) (n cap : Nat) (u v : Nat → ByteArray) (w : World) (hG : Ground w) (hr : Rf w xa n u v) (ht : great 3 (litS [t, p, q]) = false) (h1 : n ≤ 6) (hl : wides n u v = true) :
    Calls Tryz.prog 4 #[.string t, .string p, .string q, .slice xa n cap] w fun r w' => r = .returned (.bool true) ∧ Below w.heap.size w w' := by
  have HL := Lib.hid (rGreat_lit w hG [t, p, q] (by simp))
  simp only [List.length_cons, List.length_nil, Nat.zero_add, Nat.reduceAdd, List.map_cons, List.map_nil] at HL
  rw [ht] at HL
  have HG := Lib.hid hG
  have HAW := Lib.hid aawake
  have HR := Lib.hid hr
  have HWI := Lib.hid (fun W hG hr => hasWide W hG xa n cap u v hr (by omega) (fun i => wideF (u i) (v i)) (fun i _ W hW => rWide (u i) (v i) W hW))
  rw [show (List.range n).any (fun i => wideF (u i) (v i)) = wides n u v from rfl, hl] at HWI
  have i1 : ¬ (6 : Int) < n := by omega
  have i3 : ¬ (1005 : Int) < n := by omega
  clear ht hG hr hl h1
  go_enter Tryz.func4, Tryz.ntmps4
  go_wp2_with fail
  refine HL.out.mono ?_
  rintro _ w0 ⟨rfl, hb⟩
  go_wp2_with fail
  refine (HWI.out _ (HG.out.below hb) (HR.out.belowAt hb (Nat.le_refl _))).mono ?_
  rintro _ _ ⟨rfl, hB⟩
  replace hb := hb.trans (hB.mono hb.size)
  clear hB
  go_wp2_with fail
  refine (HAW.out _ (HG.out.below hb)).mono ?_
  rintro _ _ ⟨rfl, hB⟩
  replace hb := hb.trans (hB.mono hb.size)
  clear hB
  go_wp2_with fail
  go_ret
  exact ⟨rfl, hb⟩

set_option maxRecDepth 100000 in
set_option maxHeartbeats 16000000 in
theorem ass_wide2 (t p q : ByteArray) (xa : Option Addr) (n cap : Nat) (u v : Nat → ByteArray) (w : World) (hG : Ground w) (hr : Rf w xa n u v) (ht : great 3 (litS [t, p, q]) = false) (h1 : 1000 < n) (h2 : n ≤ 1005) (hl : wides n u v = true) :
    Calls Tryz.prog 4 #[.string t, .string p, .string q, .slice xa n cap] w fun r w' => r = .returned (.bool true) ∧ Below w.heap.size w w' := by
  have HL := Lib.hid (rGreat_lit w hG [t, p, q] (by simp))
  simp only [List.length_cons, List.length_nil, Nat.zero_add, Nat.reduceAdd, List.map_cons, List.map_nil] at HL
  rw [ht] at HL
  have HG := Lib.hid hG
  have HAW := Lib.hid aawake
  have HR := Lib.hid hr
  have HWI := Lib.hid (fun W hG hr => hasWide W hG xa n cap u v hr (by omega) (fun i => wideF (u i) (v i)) (fun i _ W hW => rWide (u i) (v i) W hW))
  rw [show (List.range n).any (fun i => wideF (u i) (v i)) = wides n u v from rfl, hl] at HWI
  have i1 : (6 : Int) < n := by omega
  have i2 : ¬ (n : Int) ≤ 1000 := by omega
  have i3 : ¬ (1005 : Int) < n := by omega
  clear ht hG hr hl h1 h2
  go_enter Tryz.func4, Tryz.ntmps4
  go_wp2_with fail
  refine HL.out.mono ?_
  rintro _ w0 ⟨rfl, hb⟩
  go_wp2_with fail
  refine (HWI.out _ (HG.out.below hb) (HR.out.belowAt hb (Nat.le_refl _))).mono ?_
  rintro _ _ ⟨rfl, hB⟩
  replace hb := hb.trans (hB.mono hb.size)
  clear hB
  go_wp2_with fail
  refine (HAW.out _ (HG.out.below hb)).mono ?_
  rintro _ _ ⟨rfl, hB⟩
  replace hb := hb.trans (hB.mono hb.size)
  clear hB
  go_wp2_with fail
  go_ret
  exact ⟨rfl, hb⟩

set_option maxRecDepth 100000 in
set_option maxHeartbeats 16000000 in
theorem ass_ok1 (t p q : ByteArray) (xa : Option Addr) (n cap : Nat) (u v : Nat → ByteArray) (w : World) (hG : Ground w) (hr : Rf w xa n u v) (ht : great 3 (litS [t, p, q]) = false) (h1 : n ≤ 6) (hl : wides n u v = false) :
    Calls Tryz.prog 4 #[.string t, .string p, .string q, .slice xa n cap] w fun r w' => r = .returned (.bool true) ∧ Below w.heap.size w w' := by
  have HL := Lib.hid (rGreat_lit w hG [t, p, q] (by simp))
  simp only [List.length_cons, List.length_nil, Nat.zero_add, Nat.reduceAdd, List.map_cons, List.map_nil] at HL
  rw [ht] at HL
  have HG := Lib.hid hG
  have HAW := Lib.hid aawake
  have HR := Lib.hid hr
  have HWI := Lib.hid (fun W hG hr => hasWide W hG xa n cap u v hr (by omega) (fun i => wideF (u i) (v i)) (fun i _ W hW => rWide (u i) (v i) W hW))
  rw [show (List.range n).any (fun i => wideF (u i) (v i)) = wides n u v from rfl, hl] at HWI
  have i1 : ¬ (6 : Int) < n := by omega
  have i3 : ¬ (1005 : Int) < n := by omega
  have hall := litS_all (l := [t, p, q]) (great_false ht).2
  obtain ⟨a, b, c, hs1, hs2⟩ := share_both (t := t) (p := p) (q := q) (hall t (by simp)) (hall p (by simp)) (hall q (by simp))
  have hwf := wides_false hl
  obtain ⟨m1, c1, f1, hm1, hf1, hf2⟩ := both_frac (t := t) (n := n) (u := u) (v := v) ⟨by omega, by omega, hall t (by simp), fun _ i hi => (hwf i hi).1, fun _ i hi => (hwf i hi).2⟩
  have S1 := Lib.hid hs1
  have S2 := Lib.hid hs2
  have F1 := Lib.hid hf1
  have F2 := Lib.hid hf2
  unfold Ret shareV at S1 S2
  unfold OnF ShPost at F1 F2
  clear ht hG hr hl hall hs1 hs2 hwf hf1 hf2 h1
  go_enter Tryz.func4, Tryz.ntmps4
  go_wp2_with fail
  refine HL.out.mono ?_
  rintro _ w0 ⟨rfl, hb⟩
  go_wp2_with fail
  refine (HWI.out _ (HG.out.below hb) (HR.out.belowAt hb (Nat.le_refl _))).mono ?_
  rintro _ _ ⟨rfl, hB⟩
  replace hb := hb.trans (hB.mono hb.size)
  clear hB
  go_wp2_with fail
  refine (S1.out _ (HG.out.below hb)).mono ?_
  rintro _ _ ⟨rfl, hB⟩
  replace hb := hb.trans (hB.mono hb.size)
  clear hB
  go_wp2_with fail
  refine (S2.out _ (HG.out.below hb)).mono ?_
  rintro _ _ ⟨rfl, hB⟩
  replace hb := hb.trans (hB.mono hb.size)
  clear hB
  go_wp2_with fail
  refine Calls.mono (F1.out _ _ _ (HG.out.below hb) (HR.out.belowAt hb (Nat.le_refl _))) ?_
  rintro _ _ ⟨xa, xc, rfl, xr, hB⟩
  replace hb := hb.trans (hB.mono hb.size)
  clear hB
  go_wp2_with fail
  refine Calls.mono (F2.out _ _ _ (HG.out.below hb) (HR.out.belowAt hb (Nat.le_refl _))) ?_
  rintro _ _ ⟨ya, yc, rfl, yr, hB⟩
  replace xr := xr.below hB
  replace hb := hb.trans (hB.mono hb.size)
  clear hB
  go_wp2_with fail
  refine Calls.mono (eqStr _ _ _ m1 _ _ _ _ xr yr (by omega)) ?_
  rw [sameS_true (fun _ _ => rfl)]
  rintro _ _ ⟨rfl, hB⟩
  replace hb := hb.trans (hB.mono hb.size)
  clear hB xr yr
  go_wp2_with fail
  refine (HAW.out _ (HG.out.below hb)).mono ?_
  rintro _ _ ⟨rfl, hB⟩
  replace hb := hb.trans (hB.mono hb.size)
  clear hB
  go_wp2_with fail
  go_ret
  exact ⟨rfl, hb⟩

set_option maxRecDepth 100000 in
set_option maxHeartbeats 16000000 in
theorem ass_ok2 (t p q : ByteArray) (xa : Option Addr) (n cap : Nat) (u v : Nat → ByteArray) (w : World) (hG : Ground w) (hr : Rf w xa n u v) (ht : great 3 (litS [t, p, q]) = false) (h1 : 1000 < n) (h2 : n ≤ 1005) (hl : wides n u v = false) :
    Calls Tryz.prog 4 #[.string t, .string p, .string q, .slice xa n cap] w fun r w' => r = .returned (.bool true) ∧ Below w.heap.size w w' := by
  have HL := Lib.hid (rGreat_lit w hG [t, p, q] (by simp))
  simp only [List.length_cons, List.length_nil, Nat.zero_add, Nat.reduceAdd, List.map_cons, List.map_nil] at HL
  rw [ht] at HL
  have HG := Lib.hid hG
  have HAW := Lib.hid aawake
  have HR := Lib.hid hr
  have HWI := Lib.hid (fun W hG hr => hasWide W hG xa n cap u v hr (by omega) (fun i => wideF (u i) (v i)) (fun i _ W hW => rWide (u i) (v i) W hW))
  rw [show (List.range n).any (fun i => wideF (u i) (v i)) = wides n u v from rfl, hl] at HWI
  have i1 : (6 : Int) < n := by omega
  have i2 : ¬ (n : Int) ≤ 1000 := by omega
  have i3 : ¬ (1005 : Int) < n := by omega
  have hall := litS_all (l := [t, p, q]) (great_false ht).2
  obtain ⟨a, b, c, hs1, hs2⟩ := share_both (t := t) (p := p) (q := q) (hall t (by simp)) (hall p (by simp)) (hall q (by simp))
  have hwf := wides_false hl
  obtain ⟨m1, c1, f1, hm1, hf1, hf2⟩ := both_frac (t := t) (n := n) (u := u) (v := v) ⟨by omega, by omega, hall t (by simp), fun _ i hi => (hwf i hi).1, fun _ i hi => (hwf i hi).2⟩
  have S1 := Lib.hid hs1
  have S2 := Lib.hid hs2
  have F1 := Lib.hid hf1
  have F2 := Lib.hid hf2
  unfold Ret shareV at S1 S2
  unfold OnF ShPost at F1 F2
  clear ht hG hr hl hall hs1 hs2 hwf hf1 hf2 h1 h2
  go_enter Tryz.func4, Tryz.ntmps4
  go_wp2_with fail
  refine HL.out.mono ?_
  rintro _ w0 ⟨rfl, hb⟩
  go_wp2_with fail
  refine (HWI.out _ (HG.out.below hb) (HR.out.belowAt hb (Nat.le_refl _))).mono ?_
  rintro _ _ ⟨rfl, hB⟩
  replace hb := hb.trans (hB.mono hb.size)
  clear hB
  go_wp2_with fail
  refine (S1.out _ (HG.out.below hb)).mono ?_
  rintro _ _ ⟨rfl, hB⟩
  replace hb := hb.trans (hB.mono hb.size)
  clear hB
  go_wp2_with fail
  refine (S2.out _ (HG.out.below hb)).mono ?_
  rintro _ _ ⟨rfl, hB⟩
  replace hb := hb.trans (hB.mono hb.size)
  clear hB
  go_wp2_with fail
  refine Calls.mono (F1.out _ _ _ (HG.out.below hb) (HR.out.belowAt hb (Nat.le_refl _))) ?_
  rintro _ _ ⟨xa, xc, rfl, xr, hB⟩
  replace hb := hb.trans (hB.mono hb.size)
  clear hB
  go_wp2_with fail
  refine Calls.mono (F2.out _ _ _ (HG.out.below hb) (HR.out.belowAt hb (Nat.le_refl _))) ?_
  rintro _ _ ⟨ya, yc, rfl, yr, hB⟩
  replace xr := xr.below hB
  replace hb := hb.trans (hB.mono hb.size)
  clear hB
  go_wp2_with fail
  refine Calls.mono (eqStr _ _ _ m1 _ _ _ _ xr yr (by omega)) ?_
  rw [sameS_true (fun _ _ => rfl)]
  rintro _ _ ⟨rfl, hB⟩
  replace hb := hb.trans (hB.mono hb.size)
  clear hB xr yr
  go_wp2_with fail
  refine (HAW.out _ (HG.out.below hb)).mono ?_
  rintro _ _ ⟨rfl, hB⟩
  replace hb := hb.trans (hB.mono hb.size)
  clear hB
  go_wp2_with fail
  go_ret
  exact ⟨rfl, hb⟩

theorem ass_any (t p q : ByteArray) (xa : Option Addr) (n cap : Nat) (u v : Nat → ByteArray) (w : World) (hG : Ground w) (hr : Rf w xa n u v) :
    Calls Tryz.prog 4 #[.string t, .string p, .string q, .slice xa n cap] w fun r w' => r = .returned (.bool true) ∧ Below w.heap.size w w' := by
  cases ht : great 3 (litS [t, p, q]) with
  | true => exact ass_long t p q xa n cap w hG ht
  | false =>
    by_cases h1 : 6 < n ∧ n ≤ 1000
    · exact ass_mid t p q xa n cap w hG ht h1.1 h1.2
    · by_cases h2 : 1005 < n
      · exact ass_top t p q xa n cap w hG ht h2
      · cases hl : wides n u v with
        | true =>
          by_cases h3 : n ≤ 6
          · exact ass_wide1 t p q xa n cap u v w hG hr ht h3 hl
          · exact ass_wide2 t p q xa n cap u v w hG hr ht (by omega) (by omega) hl
        | false =>
          by_cases h3 : n ≤ 6
          · exact ass_ok1 t p q xa n cap u v w hG hr ht h3 hl
          · exact ass_ok2 t p q xa n cap u v w hG hr ht (by omega) (by omega) hl

end Go.Proofs.YthhihdihkddakaaGreatDoor
