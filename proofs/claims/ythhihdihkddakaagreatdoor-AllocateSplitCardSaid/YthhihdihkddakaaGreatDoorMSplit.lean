/- the law AllocateSplit: the walk. -/
import Derived.Test.YthhihdihkddakaaGreatDoorRB
namespace Go.Proofs.YthhihdihkddakaaGreatDoor
open Go.RowKit Fra

/-- m strings f and the error c -/
def SlPost (m : Nat) (c : Int) (f : Nat → ByteArray) (W : World) (e : Ending) (w' : World) : Prop := ∃ ya cy, e = .returned (.tuple #[.slice ya m cy, .int .i64 c]) ∧ Rs w' ya m f ∧ Below W.heap.size W w'
def FlPost (m : Nat) (c : Int) (u v : Nat → ByteArray) (W : World) (e : Ending) (w' : World) : Prop := ∃ ya cy, e = .returned (.tuple #[.slice ya m cy, .int .i64 c]) ∧ Rf w' ya m u v ∧ Below W.heap.size W w'
/-- from a slice of the weights s -/
def OnS (F : FuncId) (t : ByteArray) (n : Nat) (s : Nat → ByteArray) (Q : World → Ending → World → Prop) : Prop := ∀ W xa cap, Ground W → Rs W xa n s → Calls Tryz.prog F #[.string t, .slice xa n cap] W (Q W)
theorem sl_nil {c : Int} {W : World} {e : Ending} {w' : World} (h : e = .returned (nilE c) ∧ Below W.heap.size W w') : SlPost 0 c (fun _ => ⟨#[]⟩) W e w' := ⟨none, 0, h.1, Rc.nil _ _ _, h.2⟩
theorem fl_nil {c : Int} {W : World} {e : Ending} {w' : World} (h : e = .returned (nilE c) ∧ Below W.heap.size W w') : FlPost 0 c (fun _ => ⟨#[]⟩) (fun _ => ⟨#[]⟩) W e w' := ⟨none, 0, h.1, Rc.nil _ _ _, h.2⟩
theorem both_split {t : ByteArray} {n : Nat} {s : Nat → ByteArray} (hf : FitW n t s) (hq : FitQ n t s) (ht : t.size ≤ 30) (hs : ∀ i, i < n → (s i).size ≤ 30) :
    ∃ m c f, m ≤ 1000 ∧ OnS 14 t n s (SlPost m c f) ∧ OnS 15 t n s (SlPost m c f) := by
  by_cases h : weighE t n s = 0
  · have := (weighE_zero h).few
    refine ⟨n, 0, fun i => cS (Num.splitP (vS t) (Num.sumN (wtN s) n) (wtN s) n i), this, fun W xa cap hG hr => (aSplit_ok W hG t xa n cap s hr hf h).mono ?_, fun W xa cap hG hr => (rSplit_ok W hG t xa n cap s hr hq h ht hs).mono ?_⟩
    · rintro e w' ⟨P, e1, hP, hB⟩; exact ⟨_, _, e1, hP.rc, hB⟩
    · rintro e w' ⟨P, e1, hP, hB⟩; exact ⟨_, _, e1, hP.rc, hB⟩
  · exact ⟨0, weighE t n s, fun _ => ⟨#[]⟩, by omega, fun W xa cap hG hr => (aSplit_bad W hG t xa n cap s hr hf h).mono fun _ _ => sl_nil, fun W xa cap _ hr => (rSplit_bad W t xa n cap s hr hq h).mono fun _ _ => sl_nil⟩
theorem both_run {t : ByteArray} {n : Nat} {s : Nat → ByteArray} (hf : FitW n t s) (hq : FitQ n t s) (ht : t.size ≤ 30) (hs : ∀ i, i < n → (s i).size ≤ 30) :
    ∃ m c f, m ≤ 1000 ∧ OnS 18 t n s (SlPost m c f) ∧ OnS 19 t n s (SlPost m c f) := by
  by_cases h : weighE t n s = 0
  · have := (weighE_zero h).few
    refine ⟨n, 0, fun i => cS (Num.runP (vS t) (Num.sumN (wtN s) n) (wtN s) i), this, fun W xa cap hG hr => (aRun_ok W hG t xa n cap s hr hf h).mono ?_, fun W xa cap hG hr => (rRunR_ok W hG t xa n cap s hr hq h ht hs).mono ?_⟩
    · rintro e w' ⟨P, e1, hP, hB⟩; exact ⟨_, _, e1, hP.rc, hB⟩
    · rintro e w' ⟨ya, cy, e1, hP, hB⟩; exact ⟨_, _, e1, hP, hB⟩
  · exact ⟨0, weighE t n s, fun _ => ⟨#[]⟩, by omega, fun W xa cap hG hr => (aRun_bad W hG t xa n cap s hr hf h).mono fun _ _ => sl_nil, fun W xa cap _ hr => (rRunR_bad W t xa n cap s hr hq h).mono fun _ _ => sl_nil⟩
theorem both_ideal {t : ByteArray} {n : Nat} {s : Nat → ByteArray} (hf : FitW n t s) (hq : FitQ n t s) :
    ∃ m c u v, m ≤ 1000 ∧ OnS 16 t n s (FlPost m c u v) ∧ OnS 17 t n s (FlPost m c u v) := by
  by_cases h : weighE t n s = 0
  · have := (weighE_zero h).few
    refine ⟨n, 0, idN (vS t) (Num.sumN (wtN s) n) (wtN s), idD (vS t) (Num.sumN (wtN s) n) (wtN s), this, fun W xa cap hG hr => (aIdeal_ok W hG t xa n cap s hr hf h).mono ?_, fun W xa cap hG hr => (rIdeal_ok W hG t xa n cap s hr hq h).mono ?_⟩
    · rintro e w' ⟨P, e1, hP, hB⟩; exact ⟨_, _, e1, hP, hB⟩
    · rintro e w' ⟨ya, cy, _, e1, hP, hB⟩; exact ⟨_, _, e1, hP, hB⟩
  · exact ⟨0, weighE t n s, fun _ => ⟨#[]⟩, fun _ => ⟨#[]⟩, by omega, fun W xa cap hG hr => (aIdeal_bad W hG t xa n cap s hr hf h).mono fun _ _ => fl_nil, fun W xa cap _ hr => (rIdeal_bad W t xa n cap s hr hq h).mono fun _ _ => fl_nil⟩
theorem both_even {t : ByteArray} {N : Int} (ht : t.size ≤ 30) (hN : N ≤ 12 ∨ 1000 < N) :
    ∃ m c f, m ≤ 1000 ∧ (∀ W, Ground W → Calls Tryz.prog 20 #[.string t, .int .i64 N] W (SlPost m c f W)) ∧ (∀ W, Ground W → Calls Tryz.prog 21 #[.string t, .int .i64 N] W (SlPost m c f W)) := by
  by_cases h : N < 1 ∨ 1000 < N
  · exact ⟨0, 2, fun _ => ⟨#[]⟩, by omega, fun W _ => (aEven_no W t N h).mono fun _ _ => sl_nil, fun W _ => (rEven_no W t N h).mono fun _ _ => sl_nil⟩
  · obtain ⟨n, rfl⟩ : ∃ n : Nat, N = n := ⟨N.toNat, by omega⟩
    obtain ⟨m, c, f, hm, h1, h2⟩ := both_split (t := t) (n := n) (s := fun _ => ⟨#[49]⟩) ⟨by omega, by omega, by omega, fun _ _ _ => by decide⟩ ⟨by omega, by omega, by omega, fun _ _ _ => by decide⟩ ht (fun _ _ => by decide)
    refine ⟨m, c, f, hm, fun W hG => (aEven_walk W hG t n (by omega) (by omega) (fun ya m' _ c' w' => m' = m ∧ c' = c ∧ Rs w' ya m f) fun W xa cap hG hr => (h1 W xa cap hG hr).mono ?_).mono ?_, fun W hG => (rEven_walk W hG t n (by omega) (by omega) (fun ya m' _ c' w' => m' = m ∧ c' = c ∧ Rs w' ya m f) fun W xa cap hG hr => (h2 W xa cap hG hr).mono ?_).mono ?_⟩
    · rintro e w' ⟨ya, cy, e1, h, hB⟩; exact ⟨ya, m, cy, c, e1, ⟨rfl, rfl, h⟩, hB⟩
    · rintro e w' ⟨ya, m', cy, c', e1, ⟨rfl, rfl, h⟩, hB⟩; exact ⟨ya, cy, e1, h, hB⟩
    · rintro e w' ⟨ya, cy, e1, h, hB⟩; exact ⟨ya, m, cy, c, e1, ⟨rfl, rfl, h⟩, hB⟩
    · rintro e w' ⟨ya, m', cy, c', e1, ⟨rfl, rfl, h⟩, hB⟩; exact ⟨ya, cy, e1, h, hB⟩

set_option maxRecDepth 100000 in
set_option maxHeartbeats 16000000 in
theorem asl_long1 (t : ByteArray) (xa : Option Addr) (n cap : Nat) (N : Int) (w : World) (hG : Ground w) (ht : over t = true) :
    Calls Tryz.prog 3 #[.string t, .slice xa n cap, .int .i64 N] w fun r w' => r = .returned (.bool true) ∧ Below w.heap.size w w' := by
  have HL := Lib.hid (rGreat_lit w hG [t] (by simp))
  simp only [List.length_cons, List.length_nil, Nat.zero_add, List.map_cons, List.map_nil] at HL
  rw [great1, ht] at HL
  have HG := Lib.hid hG
  have HAW := Lib.hid aawake
  clear ht hG
  go_enter Tryz.func3, Tryz.ntmps3
  go_wp2_with fail
  refine HL.out.mono ?_
  rintro _ w0 ⟨rfl, hb⟩
  go_wp2_with fail
  refine (HAW.out _ (HG.out.below hb)).mono ?_
  rintro _ _ ⟨rfl, hB⟩
  replace hb := hb.trans (hB.mono hb.size)
  clear hB
  go_wp2_with fail
  go_ret
  exact ⟨rfl, hb⟩

set_option maxRecDepth 100000 in
set_option maxHeartbeats 16000000 in
theorem asl_long2 (t : ByteArray) (xa : Option Addr) (n cap : Nat) (s : Nat → ByteArray) (N : Int) (w : World) (hG : Ground w) (hr : Rs w xa n s) (hmax : n ≤ 9223372036854775807) (ht : over t = false) (hl : great n s = true) :
    Calls Tryz.prog 3 #[.string t, .slice xa n cap, .int .i64 N] w fun r w' => r = .returned (.bool true) ∧ Below w.heap.size w w' := by
  have HL := Lib.hid (rGreat_lit w hG [t] (by simp))
  simp only [List.length_cons, List.length_nil, Nat.zero_add, List.map_cons, List.map_nil] at HL
  rw [great1, ht] at HL
  have HG := Lib.hid hG
  have HAW := Lib.hid aawake
  have HR := Lib.hid hr
  have HGR := Lib.hid (fun W hG hr => rGreat W hG xa n cap s hr hmax)
  rw [hl] at HGR
  clear ht hG hr hmax hl
  go_enter Tryz.func3, Tryz.ntmps3
  go_wp2_with fail
  refine HL.out.mono ?_
  rintro _ w0 ⟨rfl, hb⟩
  go_wp2_with fail
  refine (HGR.out _ (HG.out.below hb) (HR.out.belowAt hb (Nat.le_refl _))).mono ?_
  rintro _ _ ⟨rfl, hB⟩
  replace hb := hb.trans (hB.mono hb.size)
  clear hB
  go_wp2_with fail
  refine (HAW.out _ (HG.out.below hb)).mono ?_
  rintro _ _ ⟨rfl, hB⟩
  replace hb := hb.trans (hB.mono hb.size)
  clear hB
  go_wp2_with fail
  go_ret
  exact ⟨rfl, hb⟩

set_option maxRecDepth 100000 in
set_option maxHeartbeats 16000000 in
theorem asl_mid (t : ByteArray) (xa : Option Addr) (n cap : Nat) (s : Nat → ByteArray) (N : Int) (w : World) (hG : Ground w) (hr : Rs w xa n s) (hmax : n ≤ 9223372036854775807) (ht : over t = false) (hl : great n s = false) (h1 : 12 < N) (h2 : N ≤ 1000) :
    Calls Tryz.prog 3 #[.string t, .slice xa n cap, .int .i64 N] w fun r w' => r = .returned (.bool true) ∧ Below w.heap.size w w' := by
  have HL := Lib.hid (rGreat_lit w hG [t] (by simp))
  simp only [List.length_cons, List.length_nil, Nat.zero_add, List.map_cons, List.map_nil] at HL
  rw [great1, ht] at HL
  have HG := Lib.hid hG
  have HAW := Lib.hid aawake
  have HR := Lib.hid hr
  have HGR := Lib.hid (fun W hG hr => rGreat W hG xa n cap s hr hmax)
  rw [hl] at HGR
  clear ht hG hr hmax hl
  go_enter Tryz.func3, Tryz.ntmps3
  go_wp2_with fail
  refine HL.out.mono ?_
  rintro _ w0 ⟨rfl, hb⟩
  go_wp2_with fail
  refine (HGR.out _ (HG.out.below hb) (HR.out.belowAt hb (Nat.le_refl _))).mono ?_
  rintro _ _ ⟨rfl, hB⟩
  replace hb := hb.trans (hB.mono hb.size)
  clear hB
  go_wp2_with fail
  refine (HAW.out _ (HG.out.below hb)).mono ?_
  rintro _ _ ⟨rfl, hB⟩
  replace hb := hb.trans (hB.mono hb.size)
  clear hB
  go_wp2_with fail
  go_ret
  exact ⟨rfl, hb⟩

set_option maxRecDepth 100000 in
set_option maxHeartbeats 16000000 in
theorem asl_ok1 (t : ByteArray) (xa : Option Addr) (n cap : Nat) (s : Nat → ByteArray) (N : Int) (w : World) (hG : Ground w) (hr : Rs w xa n s) (hmax : n ≤ 9223372036854775807) (ht : over t = false) (hl : great n s = false) (h1 : N ≤ 12) :
    Calls Tryz.prog 3 #[.string t, .slice xa n cap, .int .i64 N] w fun r w' => r = .returned (.bool true) ∧ Below w.heap.size w w' := by
  have HL := Lib.hid (rGreat_lit w hG [t] (by simp))
  simp only [List.length_cons, List.length_nil, Nat.zero_add, List.map_cons, List.map_nil] at HL
  rw [great1, ht] at HL
  have HG := Lib.hid hG
  have HAW := Lib.hid aawake
  have HR := Lib.hid hr
  have h2 : ¬ 12 < N := by omega
  have HGR := Lib.hid (fun W hG hr => rGreat W hG xa n cap s hr hmax)
  rw [hl] at HGR
  obtain ⟨hf, ht30⟩ := fitW_of ht hl
  obtain ⟨g1, g2⟩ := great_false hl
  have hq : FitQ n t s := ⟨by omega, by omega, by omega, fun _ i hi => by have := g2 i hi; omega⟩
  obtain ⟨m1, c1, f1, hm1, hs1, hs2⟩ := both_split hf hq ht30 g2
  obtain ⟨m2, c2, u2, v2, hm2, hi1, hi2⟩ := both_ideal hf hq
  obtain ⟨m3, c3, f3, hm3, hr1, hr2⟩ := both_run hf hq ht30 g2
  obtain ⟨m4, c4, f4, hm4, he1, he2⟩ := both_even ht30 (show N ≤ 12 ∨ 1000 < N by omega)
  have S1 := Lib.hid hs1
  have S2 := Lib.hid hs2
  have I1 := Lib.hid hi1
  have I2 := Lib.hid hi2
  have R1 := Lib.hid hr1
  have R2 := Lib.hid hr2
  have E1 := Lib.hid he1
  have E2 := Lib.hid he2
  unfold OnS SlPost at S1 S2 R1 R2
  unfold OnS FlPost at I1 I2
  unfold SlPost at E1 E2
  clear ht hG hr hmax hl hf ht30 g1 g2 hq hs1 hs2 hi1 hi2 hr1 hr2 he1 he2
  go_enter Tryz.func3, Tryz.ntmps3
  go_wp2_with fail
  refine HL.out.mono ?_
  rintro _ w0 ⟨rfl, hb⟩
  go_wp2_with fail
  refine (HGR.out _ (HG.out.below hb) (HR.out.belowAt hb (Nat.le_refl _))).mono ?_
  rintro _ _ ⟨rfl, hB⟩
  replace hb := hb.trans (hB.mono hb.size)
  clear hB
  go_wp2_with fail
  refine Calls.mono (S1.out _ _ _ (HG.out.below hb) (HR.out.belowAt hb (Nat.le_refl _))) ?_
  rintro _ _ ⟨aa, ac, rfl, ar, hB⟩
  replace hb := hb.trans (hB.mono hb.size)
  clear hB
  go_wp2_with fail
  refine Calls.mono (S2.out _ _ _ (HG.out.below hb) (HR.out.belowAt hb (Nat.le_refl _))) ?_
  rintro _ _ ⟨ba, bc, rfl, br, hB⟩
  replace ar := ar.below hB
  replace hb := hb.trans (hB.mono hb.size)
  clear hB
  go_wp2_with fail
  refine Calls.mono (I1.out _ _ _ (HG.out.below hb) (HR.out.belowAt hb (Nat.le_refl _))) ?_
  rintro _ _ ⟨xa, xc, rfl, xr, hB⟩
  replace ar := ar.below hB
  replace br := br.below hB
  replace hb := hb.trans (hB.mono hb.size)
  clear hB
  go_wp2_with fail
  refine Calls.mono (I2.out _ _ _ (HG.out.below hb) (HR.out.belowAt hb (Nat.le_refl _))) ?_
  rintro _ _ ⟨ya, yc, rfl, yr, hB⟩
  replace ar := ar.below hB
  replace br := br.below hB
  replace xr := xr.below hB
  replace hb := hb.trans (hB.mono hb.size)
  clear hB
  go_wp2_with fail
  refine Calls.mono (R1.out _ _ _ (HG.out.below hb) (HR.out.belowAt hb (Nat.le_refl _))) ?_
  rintro _ _ ⟨ca, cc, rfl, cr, hB⟩
  replace ar := ar.below hB
  replace br := br.below hB
  replace xr := xr.below hB
  replace yr := yr.below hB
  replace hb := hb.trans (hB.mono hb.size)
  clear hB
  go_wp2_with fail
  refine Calls.mono (R2.out _ _ _ (HG.out.below hb) (HR.out.belowAt hb (Nat.le_refl _))) ?_
  rintro _ _ ⟨da, dc, rfl, dr, hB⟩
  replace ar := ar.below hB
  replace br := br.below hB
  replace xr := xr.below hB
  replace yr := yr.below hB
  replace cr := cr.below hB
  replace hb := hb.trans (hB.mono hb.size)
  clear hB
  go_wp2_with fail
  refine Calls.mono (E1.out _ (HG.out.below hb)) ?_
  rintro _ _ ⟨ua, uc, rfl, ur, hB⟩
  replace ar := ar.below hB
  replace br := br.below hB
  replace xr := xr.below hB
  replace yr := yr.below hB
  replace cr := cr.below hB
  replace dr := dr.below hB
  replace hb := hb.trans (hB.mono hb.size)
  clear hB
  go_wp2_with fail
  refine Calls.mono (E2.out _ (HG.out.below hb)) ?_
  rintro _ _ ⟨va, vc, rfl, vr, hB⟩
  replace ar := ar.below hB
  replace br := br.below hB
  replace xr := xr.below hB
  replace yr := yr.below hB
  replace cr := cr.below hB
  replace dr := dr.below hB
  replace ur := ur.below hB
  replace hb := hb.trans (hB.mono hb.size)
  clear hB
  go_wp2_with fail
  refine Calls.mono (eqStr _ _ _ m1 _ _ _ _ ar br (by omega)) ?_
  rw [sameS_true (fun _ _ => rfl)]
  rintro _ _ ⟨rfl, hB⟩
  replace xr := xr.below hB
  replace yr := yr.below hB
  replace cr := cr.below hB
  replace dr := dr.below hB
  replace ur := ur.below hB
  replace vr := vr.below hB
  replace hb := hb.trans (hB.mono hb.size)
  clear hB ar br
  go_wp2_with fail
  refine Calls.mono (eqFrac _ _ _ m2 _ _ _ _ xr yr (by omega)) ?_
  rintro _ _ ⟨rfl, hB⟩
  replace cr := cr.below hB
  replace dr := dr.below hB
  replace ur := ur.below hB
  replace vr := vr.below hB
  replace hb := hb.trans (hB.mono hb.size)
  clear hB xr yr
  go_wp2_with fail
  refine Calls.mono (eqStr _ _ _ m3 _ _ _ _ cr dr (by omega)) ?_
  rw [sameS_true (fun _ _ => rfl)]
  rintro _ _ ⟨rfl, hB⟩
  replace ur := ur.below hB
  replace vr := vr.below hB
  replace hb := hb.trans (hB.mono hb.size)
  clear hB cr dr
  go_wp2_with fail
  refine Calls.mono (eqStr _ _ _ m4 _ _ _ _ ur vr (by omega)) ?_
  rw [sameS_true (fun _ _ => rfl)]
  rintro _ _ ⟨rfl, hB⟩
  replace hb := hb.trans (hB.mono hb.size)
  clear hB ur vr
  go_wp2_with fail
  refine (HAW.out _ (HG.out.below hb)).mono ?_
  rintro _ _ ⟨rfl, hB⟩
  replace hb := hb.trans (hB.mono hb.size)
  clear hB
  go_wp2_with fail
  go_ret
  exact ⟨rfl, hb⟩

set_option maxRecDepth 100000 in
set_option maxHeartbeats 16000000 in
theorem asl_ok2 (t : ByteArray) (xa : Option Addr) (n cap : Nat) (s : Nat → ByteArray) (N : Int) (w : World) (hG : Ground w) (hr : Rs w xa n s) (hmax : n ≤ 9223372036854775807) (ht : over t = false) (hl : great n s = false) (h1 : 12 < N) (h2 : 1000 < N) :
    Calls Tryz.prog 3 #[.string t, .slice xa n cap, .int .i64 N] w fun r w' => r = .returned (.bool true) ∧ Below w.heap.size w w' := by
  have HL := Lib.hid (rGreat_lit w hG [t] (by simp))
  simp only [List.length_cons, List.length_nil, Nat.zero_add, List.map_cons, List.map_nil] at HL
  rw [great1, ht] at HL
  have HG := Lib.hid hG
  have HAW := Lib.hid aawake
  have HR := Lib.hid hr
  have h3 : ¬ N ≤ 1000 := by omega
  have HGR := Lib.hid (fun W hG hr => rGreat W hG xa n cap s hr hmax)
  rw [hl] at HGR
  obtain ⟨hf, ht30⟩ := fitW_of ht hl
  obtain ⟨g1, g2⟩ := great_false hl
  have hq : FitQ n t s := ⟨by omega, by omega, by omega, fun _ i hi => by have := g2 i hi; omega⟩
  obtain ⟨m1, c1, f1, hm1, hs1, hs2⟩ := both_split hf hq ht30 g2
  obtain ⟨m2, c2, u2, v2, hm2, hi1, hi2⟩ := both_ideal hf hq
  obtain ⟨m3, c3, f3, hm3, hr1, hr2⟩ := both_run hf hq ht30 g2
  obtain ⟨m4, c4, f4, hm4, he1, he2⟩ := both_even ht30 (show N ≤ 12 ∨ 1000 < N by omega)
  have S1 := Lib.hid hs1
  have S2 := Lib.hid hs2
  have I1 := Lib.hid hi1
  have I2 := Lib.hid hi2
  have R1 := Lib.hid hr1
  have R2 := Lib.hid hr2
  have E1 := Lib.hid he1
  have E2 := Lib.hid he2
  unfold OnS SlPost at S1 S2 R1 R2
  unfold OnS FlPost at I1 I2
  unfold SlPost at E1 E2
  clear ht hG hr hmax hl hf ht30 g1 g2 hq hs1 hs2 hi1 hi2 hr1 hr2 he1 he2
  go_enter Tryz.func3, Tryz.ntmps3
  go_wp2_with fail
  refine HL.out.mono ?_
  rintro _ w0 ⟨rfl, hb⟩
  go_wp2_with fail
  refine (HGR.out _ (HG.out.below hb) (HR.out.belowAt hb (Nat.le_refl _))).mono ?_
  rintro _ _ ⟨rfl, hB⟩
  replace hb := hb.trans (hB.mono hb.size)
  clear hB
  go_wp2_with fail
  refine Calls.mono (S1.out _ _ _ (HG.out.below hb) (HR.out.belowAt hb (Nat.le_refl _))) ?_
  rintro _ _ ⟨aa, ac, rfl, ar, hB⟩
  replace hb := hb.trans (hB.mono hb.size)
  clear hB
  go_wp2_with fail
  refine Calls.mono (S2.out _ _ _ (HG.out.below hb) (HR.out.belowAt hb (Nat.le_refl _))) ?_
  rintro _ _ ⟨ba, bc, rfl, br, hB⟩
  replace ar := ar.below hB
  replace hb := hb.trans (hB.mono hb.size)
  clear hB
  go_wp2_with fail
  refine Calls.mono (I1.out _ _ _ (HG.out.below hb) (HR.out.belowAt hb (Nat.le_refl _))) ?_
  rintro _ _ ⟨xa, xc, rfl, xr, hB⟩
  replace ar := ar.below hB
  replace br := br.below hB
  replace hb := hb.trans (hB.mono hb.size)
  clear hB
  go_wp2_with fail
  refine Calls.mono (I2.out _ _ _ (HG.out.below hb) (HR.out.belowAt hb (Nat.le_refl _))) ?_
  rintro _ _ ⟨ya, yc, rfl, yr, hB⟩
  replace ar := ar.below hB
  replace br := br.below hB
  replace xr := xr.below hB
  replace hb := hb.trans (hB.mono hb.size)
  clear hB
  go_wp2_with fail
  refine Calls.mono (R1.out _ _ _ (HG.out.below hb) (HR.out.belowAt hb (Nat.le_refl _))) ?_
  rintro _ _ ⟨ca, cc, rfl, cr, hB⟩
  replace ar := ar.below hB
  replace br := br.below hB
  replace xr := xr.below hB
  replace yr := yr.below hB
  replace hb := hb.trans (hB.mono hb.size)
  clear hB
  go_wp2_with fail
  refine Calls.mono (R2.out _ _ _ (HG.out.below hb) (HR.out.belowAt hb (Nat.le_refl _))) ?_
  rintro _ _ ⟨da, dc, rfl, dr, hB⟩
  replace ar := ar.below hB
  replace br := br.below hB
  replace xr := xr.below hB
  replace yr := yr.below hB
  replace cr := cr.below hB
  replace hb := hb.trans (hB.mono hb.size)
  clear hB
  go_wp2_with fail
  refine Calls.mono (E1.out _ (HG.out.below hb)) ?_
  rintro _ _ ⟨ua, uc, rfl, ur, hB⟩
  replace ar := ar.below hB
  replace br := br.below hB
  replace xr := xr.below hB
  replace yr := yr.below hB
  replace cr := cr.below hB
  replace dr := dr.below hB
  replace hb := hb.trans (hB.mono hb.size)
  clear hB
  go_wp2_with fail
  refine Calls.mono (E2.out _ (HG.out.below hb)) ?_
  rintro _ _ ⟨va, vc, rfl, vr, hB⟩
  replace ar := ar.below hB
  replace br := br.below hB
  replace xr := xr.below hB
  replace yr := yr.below hB
  replace cr := cr.below hB
  replace dr := dr.below hB
  replace ur := ur.below hB
  replace hb := hb.trans (hB.mono hb.size)
  clear hB
  go_wp2_with fail
  refine Calls.mono (eqStr _ _ _ m1 _ _ _ _ ar br (by omega)) ?_
  rw [sameS_true (fun _ _ => rfl)]
  rintro _ _ ⟨rfl, hB⟩
  replace xr := xr.below hB
  replace yr := yr.below hB
  replace cr := cr.below hB
  replace dr := dr.below hB
  replace ur := ur.below hB
  replace vr := vr.below hB
  replace hb := hb.trans (hB.mono hb.size)
  clear hB ar br
  go_wp2_with fail
  refine Calls.mono (eqFrac _ _ _ m2 _ _ _ _ xr yr (by omega)) ?_
  rintro _ _ ⟨rfl, hB⟩
  replace cr := cr.below hB
  replace dr := dr.below hB
  replace ur := ur.below hB
  replace vr := vr.below hB
  replace hb := hb.trans (hB.mono hb.size)
  clear hB xr yr
  go_wp2_with fail
  refine Calls.mono (eqStr _ _ _ m3 _ _ _ _ cr dr (by omega)) ?_
  rw [sameS_true (fun _ _ => rfl)]
  rintro _ _ ⟨rfl, hB⟩
  replace ur := ur.below hB
  replace vr := vr.below hB
  replace hb := hb.trans (hB.mono hb.size)
  clear hB cr dr
  go_wp2_with fail
  refine Calls.mono (eqStr _ _ _ m4 _ _ _ _ ur vr (by omega)) ?_
  rw [sameS_true (fun _ _ => rfl)]
  rintro _ _ ⟨rfl, hB⟩
  replace hb := hb.trans (hB.mono hb.size)
  clear hB ur vr
  go_wp2_with fail
  refine (HAW.out _ (HG.out.below hb)).mono ?_
  rintro _ _ ⟨rfl, hB⟩
  replace hb := hb.trans (hB.mono hb.size)
  clear hB
  go_wp2_with fail
  go_ret
  exact ⟨rfl, hb⟩

theorem asl_any (t : ByteArray) (xa : Option Addr) (n cap : Nat) (s : Nat → ByteArray) (N : Int) (w : World) (hG : Ground w) (hr : Rs w xa n s) (hmax : n ≤ 9223372036854775807) :
    Calls Tryz.prog 3 #[.string t, .slice xa n cap, .int .i64 N] w fun r w' => r = .returned (.bool true) ∧ Below w.heap.size w w' := by
  cases ht : over t with
  | true => exact asl_long1 t xa n cap N w hG ht
  | false =>
    cases hl : great n s with
    | true => exact asl_long2 t xa n cap s N w hG hr hmax ht hl
    | false =>
      by_cases h1 : N ≤ 12
      · exact asl_ok1 t xa n cap s N w hG hr hmax ht hl h1
      · by_cases h2 : N ≤ 1000
        · exact asl_mid t xa n cap s N w hG hr hmax ht hl (by omega) h2
        · exact asl_ok2 t xa n cap s N w hG hr hmax ht hl (by omega) (by omega)

end Go.Proofs.YthhihdihkddakaaGreatDoor
