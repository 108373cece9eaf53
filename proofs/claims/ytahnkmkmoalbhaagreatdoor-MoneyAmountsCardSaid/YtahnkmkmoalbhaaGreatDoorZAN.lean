/- Layer 5: good bags; the law MoneyGroup over the program's contracts. -/
import Derived.Test.YtahnkmkmoalbhaaGreatDoorZAI
import Derived.Test.YtahnkmkmoalbhaaGreatDoorZAM
namespace Go.Proofs.YtahnkmkmoalbhaaGreatDoor
open Go.RowKit

def CapB (M : Nat) (b : Bag) : Prop := ∀ p, p ∈ b → p.2.natAbs ≤ M
/-- a bag, by its list -/
structure OkB (b : Bag) : Prop where
  asc : Asc b
  nz : NZ b
  code : ∀ p, p ∈ b → codeS p.1 = true
  few : b.length ≤ 16
theorem at_mem {b : Bag} {i : Nat} (h : i < b.length) : (atU b i, atX b i) ∈ b := List.mem_of_getElem? (at_some h)
theorem OkB.shrt {b : Bag} (h : OkB b) (hc : CapB (10 ^ 18) b) : Shrt b.length (atU b) (fun i => cS (atX b i)) :=
  ⟨by have := h.few; omega, fun i hi => by have := code_size (h.code _ (at_mem hi)); show (atU b i).size ≤ 8; dsimp only at this; omega,
   fun i hi => by have := hc _ (at_mem hi); exact cS_size (k := 19) (by show (atX b i).natAbs < _; dsimp only at this; omega)⟩
theorem OkB.bag {b : Bag} (h : OkB b) : bagE isCan b.length (atU b) (fun i => cS (atX b i)) = 0 := by
  refine GoodB.zero ⟨h.few, fun i hi => h.code _ (at_mem hi), fun i _ => cS_can _, fun i hi => cS_nn (h.nz _ (at_mem hi)), fun i hi => ?_⟩
  have h1 := h.asc
  rw [← bagL_of b] at h1
  exact asc_bagL h1 hi
theorem OkB.row (b : Bag) : rowB b.length (atU b) (fun i => cS (atX b i)) = b := by
  unfold rowB
  simp only [vS_cS]
  exact bagL_of b
theorem addB_codes {A B : Bag} (ha : ∀ p, p ∈ A → codeS p.1 = true) (hb : ∀ p, p ∈ B → codeS p.1 = true) : ∀ p, p ∈ addB A B → codeS p.1 = true := by
  induction B generalizing A with
  | nil => exact ha
  | cons q r ih =>
    refine ih (A := put A q.1 q.2) (fun p hp => ?_) (fun p hp => hb p (by simp [hp]))
    rcases put_codes p hp with e | ⟨y, hy, e⟩
    · rw [e]; exact hb q (by simp)
    · rw [← e]; exact ha y hy
theorem okB_add {A B : Bag} (ha : OkB A) (hb : OkB B) (hl : (addB A B).length ≤ 16) : OkB (addB A B) := ⟨addB_asc ha.asc, addB_nz ha.nz, addB_codes ha.code hb.code, hl⟩
theorem capB_add {M : Nat} {A B : Bag} (ha : CapB M A) (hb : CapB M B) (hl : B.length ≤ 16) : CapB (17 * M) (addB A B) := fun p hp => by
  have := addB_cap ha hb B.length (Nat.le_refl _) p (by rw [List.take_length]; exact hp)
  have h2 : (B.length + 1) * M ≤ 17 * M := Nat.mul_le_mul_right _ (by omega)
  omega
theorem okB_neg {A : Bag} (ha : OkB A) : OkB (negB A) := ⟨negB_asc ha.asc, negB_nz ha.nz, fun p hp => by
  unfold negB at hp
  obtain ⟨q, hq, rfl⟩ := List.mem_map.1 hp
  exact ha.code q hq, by unfold negB; rw [List.length_map]; exact ha.few⟩
theorem capB_neg {M : Nat} {A : Bag} (ha : CapB M A) : CapB M (negB A) := fun p hp => by
  unfold negB at hp
  obtain ⟨q, hq, rfl⟩ := List.mem_map.1 hp
  have := ha q hq
  show (-q.2).natAbs ≤ M
  omega
theorem okB_nil : OkB [] := ⟨List.Pairwise.nil, fun _ h => absurd h (by simp), fun _ h => absurd h (by simp), by simp⟩
theorem capB_nil (M : Nat) : CapB M [] := fun _ h => absurd h (by simp)
theorem CapB.mono {M L : Nat} {b : Bag} (h : CapB M b) (hl : M ≤ L) : CapB L b := fun p hp => Nat.le_trans (h p hp) hl
/-- what the laws' premises say of a bag's rows -/
theorem okB_of {n : Nat} {u v : Nat → ByteArray} (h : bagE isCan n u v = 0) : OkB (rowB n u v) := by
  have g := bagE_zero h
  refine ⟨bagL_asc g.asc, good_nz g, fun p hp => ?_, by unfold rowB; rw [bagL_len]; exact g.few⟩
  unfold rowB bagL at hp
  obtain ⟨i, hi, rfl⟩ := List.mem_map.1 hp
  exact g.code i (List.mem_range.1 hi)
theorem capB_of {n : Nat} {u v : Nat → ByteArray} (h : greatB n u v = false) : CapB (10 ^ 13) (rowB n u v) := fun p hp => by
  unfold rowB bagL at hp
  obtain ⟨i, hi, rfl⟩ := List.mem_map.1 hp
  have := ((greatB_false h).2 i (List.mem_range.1 hi)).1
  have h2 : (vS (v i)).natAbs < 10 ^ 13 := Cap.of this rfl
  show (vS (v i)).natAbs ≤ _
  omega

/-- the program's contracts -/
structure MoneyOk : Prop where
  awake : ∀ W, Ground W → Calls Tryz.prog 13 #[] W (ValP (.bool true) W)
  sum : ∀ {n m : Nat} {u v s t : Nat → ByteArray}, Shrt n u v → Shrt m s t → On2 29 n u v m s t (BagP (sumO n u v m s t).1 (sumO n u v m s t).2)
  neg : ∀ {n : Nat} {u v : Nat → ByteArray}, Shrt n u v → On1 22 n u v (BagP (negO n u v).1 (negO n u v).2)
  chk : ∀ {n : Nat} {u v : Nat → ByteArray}, Shrt n u v → On1 24 n u v (ValP (.int .i64 (bagE isCan n u v)))
theorem MoneyOk.sumB (h : MoneyOk) {A B : Bag} (ha : OkB A) (hb : OkB B) (ca : CapB (10 ^ 18) A) (cb : CapB (10 ^ 18) B) (hl : (addB A B).length ≤ 16) {X : Bag} (hX : addB A B = X) (W : World) (xa ya : Option Addr) (c d : Nat) (hG : Ground W) (hx : RB W xa A) (hy : RB W ya B) :
    Calls Tryz.prog 29 #[.slice xa A.length (A.length + c), .slice ya B.length (B.length + d)] W (BagP X 0 W) := by
  have h1 := h.sum (ha.shrt ca) (hb.shrt cb) W xa ya c d hG hx hy
  have e : sumO A.length (atU A) (fun i => cS (atX A i)) B.length (atU B) (fun i => cS (atX B i)) = (X, 0) := by
    unfold sumO
    rw [if_pos ⟨ha.bag, hb.bag⟩, OkB.row, OkB.row, if_neg (by omega), hX]
  rw [e] at h1
  exact h1
theorem MoneyOk.negB' (h : MoneyOk) {A : Bag} (ha : OkB A) (ca : CapB (10 ^ 18) A) (W : World) (xa : Option Addr) (c : Nat) (hG : Ground W) (hx : RB W xa A) :
    Calls Tryz.prog 22 #[.slice xa A.length c] W (BagP (negB A) 0 W) := by
  have h1 := h.neg (ha.shrt ca) W xa c hG hx
  rw [show negO A.length (atU A) (fun i => cS (atX A i)) = (negB A, 0) by unfold negO; rw [if_pos ha.bag, OkB.row]] at h1
  exact h1
theorem MoneyOk.chkB (h : MoneyOk) {A : Bag} (ha : OkB A) (ca : CapB (10 ^ 18) A) (W : World) (xa : Option Addr) (c : Nat) (hG : Ground W) (hx : RB W xa A) :
    Calls Tryz.prog 24 #[.slice xa A.length c] W (ValP (.int .i64 0) W) := by
  have h1 := h.chk (ha.shrt ca) W xa c hG hx
  rw [ha.bag] at h1
  exact h1
theorem eqBag (b : Bag) (hb : b.length ≤ 100000) (W : World) (xa ya : Option Addr) (c d : Nat) (hx : RB W xa b) (hy : RB W ya b) :
    Calls Tryz.prog 28 #[.slice xa b.length c, .slice ya b.length d] W (ValP (.bool true) W) := by
  refine (eqMoney W xa ya b.length c d (atU b) (fun i => cS (atX b i)) (atU b) (fun i => cS (atX b i)) hx hy hb).mono fun e w' h => ?_
  obtain ⟨h1, q, hq⟩ := h
  exact ⟨by rw [h1, show sameM b.length (atU b) (fun i => cS (atX b i)) (atU b) (fun i => cS (atX b i)) = true from decide_eq_true fun _ _ => ⟨rfl, rfl⟩], by rw [hq]; exact below_drewN (Below.refl _ _) q⟩

def pick3 {α : Type} (x y z : α) (i : Nat) : α := if i = 0 then x else if i = 1 then y else z
theorem great_three {w : World} {xa ya za : Option Addr} {n m k ca cb cc : Nat} {u v s t p q : Nat → ByteArray} (h : Rf w xa n u v) (g : Rf w ya m s t) (f : Rf w za k p q) (hn : n ≤ 9223372036854775807) (hm : m ≤ 9223372036854775807) (hk : k ≤ 9223372036854775807) :
    Calls Tryz.prog 18 #[.slice (some ⟨w.heap.size, 0, none⟩) 3 3] (w.alloc (.cells #[.slice xa n ca, .slice ya m cb, .slice za k cc] 32)) fun e w' => e = .returned (.bool (greatB n u v || (greatB m s t || greatB k p q))) ∧ Below w.heap.size w w' := by
  have hb := (Below.refl w.heap.size w).alloc (Nat.le_refl _) (.cells #[.slice xa n ca, .slice ya m cb, .slice za k cc] 32)
  have hlt := World.size_alloc w (.cells #[.slice xa n ca, .slice ya m cb, .slice za k cc] 32)
  refine (rGreats _ _ 3 3 (pick3 xa ya za) (pick3 n m k) (pick3 ca cb cc) (pick3 u s p) (pick3 v t q) ⟨⟨fun _ => ⟨w.heap.size, 0, rfl, by omega, fun i hi => ?_⟩⟩, fun i hi => ?_, fun i hi => ?_⟩ (by decide)).mono fun e w' hh => ⟨?_, hb.trans (hh.2.mono (by omega))⟩
  · rcases (show i = 0 ∨ i = 1 ∨ i = 2 by omega) with rfl | rfl | rfl
    · exact cell_of_row _ _ _ _ _ _ (heap_alloc_new w _)
    · exact cell_of_row _ _ _ _ _ _ (heap_alloc_new w _)
    · exact cell_of_row _ _ _ _ _ _ (heap_alloc_new w _)
  · rcases (show i = 0 ∨ i = 1 ∨ i = 2 by omega) with rfl | rfl | rfl
    · exact h.alloc _
    · exact g.alloc _
    · exact f.alloc _
  · rcases (show i = 0 ∨ i = 1 ∨ i = 2 by omega) with rfl | rfl | rfl
    · exact hn
    · exact hm
    · exact hk
  · rw [hh.1]; simp [List.range_succ, pick3]

end Go.Proofs.YtahnkmkmoalbhaaGreatDoor

/- Layer 5: the law MoneyGroup over the program's contracts. -/
namespace Go.Proofs.YtahnkmkmoalbhaaGreatDoor
open Go.RowKit

set_option maxRecDepth 100000 in
set_option maxHeartbeats 16000000 in
theorem amg_great (HMO : MoneyOk) (xa ya za : Option Addr) (n m k ca cb cc : Nat) (u v s t p q : Nat → ByteArray) (w : World) (hG : Ground w) (hx : Rf w xa n u v) (hy : Rf w ya m s t) (hz : Rf w za k p q) (hn : n ≤ 9223372036854775807) (hm : m ≤ 9223372036854775807) (hk : k ≤ 9223372036854775807) (hg : (greatB n u v || (greatB m s t || greatB k p q)) = true) :
    Calls Tryz.prog 7 #[.slice xa n (n + ca), .slice ya m (m + cb), .slice za k (k + cc)] w (ValP (.bool true) w) := by
  have HGR := Lib.hid (great_three (ca := n + ca) (cb := m + cb) (cc := k + cc) hx hy hz hn hm hk)
  rw [hg] at HGR
  have HAW := Lib.hid HMO.awake
  have HG := Lib.hid hG
  unfold ValP at HAW ⊢
  clear hx hy hz hn hm hk hg HMO hG
  go_enter Tryz.func7, Tryz.ntmps7
  go_wp2_with fail
  refine HGR.out.mono ?_
  rintro _ w1 ⟨rfl, hb⟩
  go_wp2_with fail
  refine (HAW.out _ (HG.out.below hb)).mono ?_
  rintro _ w2 ⟨rfl, hB⟩
  go_wp2_with fail
  go_ret
  exact ⟨rfl, hb.trans (hB.mono hb.size)⟩

set_option maxRecDepth 100000 in
set_option maxHeartbeats 16000000 in
theorem amg_many (HMO : MoneyOk) (xa ya za : Option Addr) (n m k ca cb cc : Nat) (u v s t p q : Nat → ByteArray) (w : World) (hG : Ground w) (hx : Rf w xa n u v) (hy : Rf w ya m s t) (hz : Rf w za k p q) (hn : n ≤ 9223372036854775807) (hm : m ≤ 9223372036854775807) (hk : k ≤ 9223372036854775807) (hg : (greatB n u v || (greatB m s t || greatB k p q)) = false) (hl : 15 < n + m + k) :
    Calls Tryz.prog 7 #[.slice xa n (n + ca), .slice ya m (m + cb), .slice za k (k + cc)] w (ValP (.bool true) w) := by
  have HGR := Lib.hid (great_three (ca := n + ca) (cb := m + cb) (cc := k + cc) hx hy hz hn hm hk)
  rw [hg] at HGR
  have HAW := Lib.hid HMO.awake
  have HG := Lib.hid hG
  have hg1 := hg
  rw [Bool.or_eq_false_iff, Bool.or_eq_false_iff] at hg1
  have hsa := shrt_of hg1.1
  have hsb := shrt_of hg1.2.1
  have hsc := shrt_of hg1.2.2
  have hna := hsa.max
  have hnb := hsb.max
  have hnc := hsc.max
  have hw1 : IntKind.i64.wrap ((n : Int) + (m : Int)) = (n : Int) + (m : Int) := IntWalk.i64_in _ (by omega)
  have hw2 : IntKind.i64.wrap ((n : Int) + (m : Int) + (k : Int)) = (n : Int) + (m : Int) + (k : Int) := IntWalk.i64_in _ (by omega)
  have hi : (15 : Int) < (n : Int) + (m : Int) + (k : Int) := by omega
  unfold ValP at HAW ⊢
  clear hx hy hz hn hm hk hg hg1 HMO hG hsa hsb hsc hna hnb hnc hl
  go_enter Tryz.func7, Tryz.ntmps7
  go_wp2_with fail
  refine HGR.out.mono ?_
  rintro _ w1 ⟨rfl, hb⟩
  go_wp2_with fail
  refine (HAW.out _ (HG.out.below hb)).mono ?_
  rintro _ w2 ⟨rfl, hB⟩
  go_wp2_with fail
  go_ret
  exact ⟨rfl, hb.trans (hB.mono hb.size)⟩

set_option maxRecDepth 100000 in
set_option maxHeartbeats 16000000 in
theorem amg_bad1 (HMO : MoneyOk) (xa ya za : Option Addr) (n m k ca cb cc : Nat) (u v s t p q : Nat → ByteArray) (w : World) (hG : Ground w) (hx : Rf w xa n u v) (hy : Rf w ya m s t) (hz : Rf w za k p q) (hn : n ≤ 9223372036854775807) (hm : m ≤ 9223372036854775807) (hk : k ≤ 9223372036854775807) (hg : (greatB n u v || (greatB m s t || greatB k p q)) = false) (hl : n + m + k ≤ 15) (h1 : bagE isCan n u v ≠ 0) :
    Calls Tryz.prog 7 #[.slice xa n (n + ca), .slice ya m (m + cb), .slice za k (k + cc)] w (ValP (.bool true) w) := by
  have HGR := Lib.hid (great_three (ca := n + ca) (cb := m + cb) (cc := k + cc) hx hy hz hn hm hk)
  rw [hg] at HGR
  have HAW := Lib.hid HMO.awake
  have HG := Lib.hid hG
  have hg1 := hg
  rw [Bool.or_eq_false_iff, Bool.or_eq_false_iff] at hg1
  have hsa := shrt_of hg1.1
  have hsb := shrt_of hg1.2.1
  have hsc := shrt_of hg1.2.2
  have hna := hsa.max
  have hnb := hsb.max
  have hnc := hsc.max
  have hw1 : IntKind.i64.wrap ((n : Int) + (m : Int)) = (n : Int) + (m : Int) := IntWalk.i64_in _ (by omega)
  have hw2 : IntKind.i64.wrap ((n : Int) + (m : Int) + (k : Int)) = (n : Int) + (m : Int) + (k : Int) := IntWalk.i64_in _ (by omega)
  have hi : ¬ (15 : Int) < (n : Int) + (m : Int) + (k : Int) := by omega
  have C1 := Lib.hid (HMO.chk hsa)
  have C2 := Lib.hid (HMO.chk hsb)
  have C3 := Lib.hid (HMO.chk hsc)
  have HX := Lib.hid hx
  have HY := Lib.hid hy
  have HZ := Lib.hid hz
  unfold On1 ValP at C1 C2 C3
  obtain ⟨d, hd⟩ : ∃ d, bagE isCan n u v = d := ⟨_, rfl⟩
  rw [hd] at C1
  have hdb : (d != 0) = true := by rw [bne_iff_ne, ← hd]; exact h1
  clear hd h1
  unfold ValP at HAW ⊢
  clear hx hy hz hn hm hk hg hg1 HMO hG hsa hsb hsc hna hnb hnc hl
  go_enter Tryz.func7, Tryz.ntmps7
  go_wp2_with fail
  refine HGR.out.mono ?_
  rintro _ w1 ⟨rfl, hb⟩
  go_wp2_with fail
  refine Calls.mono (C1.out _ _ _ (HG.out.below hb) (HX.out.belowAt hb (Nat.le_refl _))) ?_
  rintro _ _ ⟨rfl, hB⟩
  replace hb := hb.trans (hB.mono hb.size)
  clear hB
  go_wp2_with fail
  refine (HAW.out _ (HG.out.below hb)).mono ?_
  rintro _ w2 ⟨rfl, hB⟩
  go_wp2_with fail
  go_ret
  exact ⟨rfl, hb.trans (hB.mono hb.size)⟩

set_option maxRecDepth 100000 in
set_option maxHeartbeats 16000000 in
theorem amg_bad2 (HMO : MoneyOk) (xa ya za : Option Addr) (n m k ca cb cc : Nat) (u v s t p q : Nat → ByteArray) (w : World) (hG : Ground w) (hx : Rf w xa n u v) (hy : Rf w ya m s t) (hz : Rf w za k p q) (hn : n ≤ 9223372036854775807) (hm : m ≤ 9223372036854775807) (hk : k ≤ 9223372036854775807) (hg : (greatB n u v || (greatB m s t || greatB k p q)) = false) (hl : n + m + k ≤ 15) (h1 : bagE isCan n u v = 0) (h2 : bagE isCan m s t ≠ 0) :
    Calls Tryz.prog 7 #[.slice xa n (n + ca), .slice ya m (m + cb), .slice za k (k + cc)] w (ValP (.bool true) w) := by
  have HGR := Lib.hid (great_three (ca := n + ca) (cb := m + cb) (cc := k + cc) hx hy hz hn hm hk)
  rw [hg] at HGR
  have HAW := Lib.hid HMO.awake
  have HG := Lib.hid hG
  have hg1 := hg
  rw [Bool.or_eq_false_iff, Bool.or_eq_false_iff] at hg1
  have hsa := shrt_of hg1.1
  have hsb := shrt_of hg1.2.1
  have hsc := shrt_of hg1.2.2
  have hna := hsa.max
  have hnb := hsb.max
  have hnc := hsc.max
  have hw1 : IntKind.i64.wrap ((n : Int) + (m : Int)) = (n : Int) + (m : Int) := IntWalk.i64_in _ (by omega)
  have hw2 : IntKind.i64.wrap ((n : Int) + (m : Int) + (k : Int)) = (n : Int) + (m : Int) + (k : Int) := IntWalk.i64_in _ (by omega)
  have hi : ¬ (15 : Int) < (n : Int) + (m : Int) + (k : Int) := by omega
  have C1 := Lib.hid (HMO.chk hsa)
  have C2 := Lib.hid (HMO.chk hsb)
  have C3 := Lib.hid (HMO.chk hsc)
  have HX := Lib.hid hx
  have HY := Lib.hid hy
  have HZ := Lib.hid hz
  unfold On1 ValP at C1 C2 C3
  rw [h1] at C1
  obtain ⟨d, hd⟩ : ∃ d, bagE isCan m s t = d := ⟨_, rfl⟩
  rw [hd] at C2
  have hdb : (d != 0) = true := by rw [bne_iff_ne, ← hd]; exact h2
  clear hd h1 h2
  unfold ValP at HAW ⊢
  clear hx hy hz hn hm hk hg hg1 HMO hG hsa hsb hsc hna hnb hnc hl
  go_enter Tryz.func7, Tryz.ntmps7
  go_wp2_with fail
  refine HGR.out.mono ?_
  rintro _ w1 ⟨rfl, hb⟩
  go_wp2_with fail
  refine Calls.mono (C1.out _ _ _ (HG.out.below hb) (HX.out.belowAt hb (Nat.le_refl _))) ?_
  rintro _ _ ⟨rfl, hB⟩
  replace hb := hb.trans (hB.mono hb.size)
  clear hB
  go_wp2_with fail
  refine Calls.mono (C2.out _ _ _ (HG.out.below hb) (HY.out.belowAt hb (Nat.le_refl _))) ?_
  rintro _ _ ⟨rfl, hB⟩
  replace hb := hb.trans (hB.mono hb.size)
  clear hB
  go_wp2_with fail
  refine (HAW.out _ (HG.out.below hb)).mono ?_
  rintro _ w2 ⟨rfl, hB⟩
  go_wp2_with fail
  go_ret
  exact ⟨rfl, hb.trans (hB.mono hb.size)⟩

set_option maxRecDepth 100000 in
set_option maxHeartbeats 16000000 in
theorem amg_bad3 (HMO : MoneyOk) (xa ya za : Option Addr) (n m k ca cb cc : Nat) (u v s t p q : Nat → ByteArray) (w : World) (hG : Ground w) (hx : Rf w xa n u v) (hy : Rf w ya m s t) (hz : Rf w za k p q) (hn : n ≤ 9223372036854775807) (hm : m ≤ 9223372036854775807) (hk : k ≤ 9223372036854775807) (hg : (greatB n u v || (greatB m s t || greatB k p q)) = false) (hl : n + m + k ≤ 15) (h1 : bagE isCan n u v = 0) (h2 : bagE isCan m s t = 0) (h3 : bagE isCan k p q ≠ 0) :
    Calls Tryz.prog 7 #[.slice xa n (n + ca), .slice ya m (m + cb), .slice za k (k + cc)] w (ValP (.bool true) w) := by
  have HGR := Lib.hid (great_three (ca := n + ca) (cb := m + cb) (cc := k + cc) hx hy hz hn hm hk)
  rw [hg] at HGR
  have HAW := Lib.hid HMO.awake
  have HG := Lib.hid hG
  have hg1 := hg
  rw [Bool.or_eq_false_iff, Bool.or_eq_false_iff] at hg1
  have hsa := shrt_of hg1.1
  have hsb := shrt_of hg1.2.1
  have hsc := shrt_of hg1.2.2
  have hna := hsa.max
  have hnb := hsb.max
  have hnc := hsc.max
  have hw1 : IntKind.i64.wrap ((n : Int) + (m : Int)) = (n : Int) + (m : Int) := IntWalk.i64_in _ (by omega)
  have hw2 : IntKind.i64.wrap ((n : Int) + (m : Int) + (k : Int)) = (n : Int) + (m : Int) + (k : Int) := IntWalk.i64_in _ (by omega)
  have hi : ¬ (15 : Int) < (n : Int) + (m : Int) + (k : Int) := by omega
  have C1 := Lib.hid (HMO.chk hsa)
  have C2 := Lib.hid (HMO.chk hsb)
  have C3 := Lib.hid (HMO.chk hsc)
  have HX := Lib.hid hx
  have HY := Lib.hid hy
  have HZ := Lib.hid hz
  unfold On1 ValP at C1 C2 C3
  rw [h1] at C1
  rw [h2] at C2
  obtain ⟨d, hd⟩ : ∃ d, bagE isCan k p q = d := ⟨_, rfl⟩
  rw [hd] at C3
  have hdb : (d != 0) = true := by rw [bne_iff_ne, ← hd]; exact h3
  clear hd h1 h2 h3
  unfold ValP at HAW ⊢
  clear hx hy hz hn hm hk hg hg1 HMO hG hsa hsb hsc hna hnb hnc hl
  go_enter Tryz.func7, Tryz.ntmps7
  go_wp2_with fail
  refine HGR.out.mono ?_
  rintro _ w1 ⟨rfl, hb⟩
  go_wp2_with fail
  refine Calls.mono (C1.out _ _ _ (HG.out.below hb) (HX.out.belowAt hb (Nat.le_refl _))) ?_
  rintro _ _ ⟨rfl, hB⟩
  replace hb := hb.trans (hB.mono hb.size)
  clear hB
  go_wp2_with fail
  refine Calls.mono (C2.out _ _ _ (HG.out.below hb) (HY.out.belowAt hb (Nat.le_refl _))) ?_
  rintro _ _ ⟨rfl, hB⟩
  replace hb := hb.trans (hB.mono hb.size)
  clear hB
  go_wp2_with fail
  refine Calls.mono (C3.out _ _ _ (HG.out.below hb) (HZ.out.belowAt hb (Nat.le_refl _))) ?_
  rintro _ _ ⟨rfl, hB⟩
  replace hb := hb.trans (hB.mono hb.size)
  clear hB
  go_wp2_with fail
  refine (HAW.out _ (HG.out.below hb)).mono ?_
  rintro _ w2 ⟨rfl, hB⟩
  go_wp2_with fail
  go_ret
  exact ⟨rfl, hb.trans (hB.mono hb.size)⟩

set_option maxRecDepth 100000 in
set_option maxHeartbeats 16000000 in
theorem amg_ok (HMO : MoneyOk) (xa ya za : Option Addr) (n m k ca cb cc : Nat) (u v s t p q : Nat → ByteArray) (w : World) (hG : Ground w) (hx : Rf w xa n u v) (hy : Rf w ya m s t) (hz : Rf w za k p q) (hn : n ≤ 9223372036854775807) (hm : m ≤ 9223372036854775807) (hk : k ≤ 9223372036854775807) (hg : (greatB n u v || (greatB m s t || greatB k p q)) = false) (hl : n + m + k ≤ 15) (h1 : bagE isCan n u v = 0) (h2 : bagE isCan m s t = 0) (h3 : bagE isCan k p q = 0) :
    Calls Tryz.prog 7 #[.slice xa n (n + ca), .slice ya m (m + cb), .slice za k (k + cc)] w (ValP (.bool true) w) := by
  have HGR := Lib.hid (great_three (ca := n + ca) (cb := m + cb) (cc := k + cc) hx hy hz hn hm hk)
  rw [hg] at HGR
  have HAW := Lib.hid HMO.awake
  have HG := Lib.hid hG
  have hg1 := hg
  rw [Bool.or_eq_false_iff, Bool.or_eq_false_iff] at hg1
  have hsa := shrt_of hg1.1
  have hsb := shrt_of hg1.2.1
  have hsc := shrt_of hg1.2.2
  have hna := hsa.max
  have hnb := hsb.max
  have hnc := hsc.max
  have hw1 : IntKind.i64.wrap ((n : Int) + (m : Int)) = (n : Int) + (m : Int) := IntWalk.i64_in _ (by omega)
  have hw2 : IntKind.i64.wrap ((n : Int) + (m : Int) + (k : Int)) = (n : Int) + (m : Int) + (k : Int) := IntWalk.i64_in _ (by omega)
  have hi : ¬ (15 : Int) < (n : Int) + (m : Int) + (k : Int) := by omega
  have C1 := Lib.hid (HMO.chk hsa)
  have C2 := Lib.hid (HMO.chk hsb)
  have C3 := Lib.hid (HMO.chk hsc)
  have HX := Lib.hid hx
  have HY := Lib.hid hy
  have HZ := Lib.hid hz
  unfold On1 ValP at C1 C2 C3
  rw [h1] at C1
  rw [h2] at C2
  rw [h3] at C3
  have HMO' := Lib.hid HMO
  obtain ⟨A, hA⟩ : ∃ A, rowB n u v = A := ⟨_, rfl⟩
  obtain ⟨B, hB⟩ : ∃ B, rowB m s t = B := ⟨_, rfl⟩
  obtain ⟨C, hC⟩ : ∃ C, rowB k p q = C := ⟨_, rfl⟩
  have oa := okB_of h1
  have ob := okB_of h2
  have oc := okB_of h3
  have pa := capB_of hg1.1
  have pb := capB_of hg1.2.1
  have pc := capB_of hg1.2.2
  have ra := good_rb (bagE_zero h1) hx
  have rb := good_rb (bagE_zero h2) hy
  have rc := good_rb (bagE_zero h3) hz
  have la : (rowB n u v).length = n := bagL_len _ _ _
  have lb : (rowB m s t).length = m := bagL_len _ _ _
  have lc : (rowB k p q).length = k := bagL_len _ _ _
  rw [hA] at oa pa ra la
  rw [hB] at ob pb rb lb
  rw [hC] at oc pc rc lc
  clear C1 C2 C3 HX HY HZ
  subst la
  subst lb
  subst lc
  have lx := addB_len A B
  have ox := okB_add oa ob (by omega)
  have px := capB_add pa pb ob.few
  have lz := addB_len B C
  have oz := okB_add ob oc (by omega)
  have pz := capB_add pb pc oc.few
  have ll := addB_len (addB A B) C
  have lr := addB_len A (addB B C)
  have on := okB_neg oa
  have pn := capB_neg pa
  have hcap : (17 : Nat) * 10 ^ 13 ≤ 10 ^ 18 := by decide
  have hcap2 : (10 : Nat) ^ 13 ≤ 10 ^ 18 := by decide
  have S1 := Lib.hid (fun W xa ya c d hG hx hy => HMO.sumB oa ob (pa.mono hcap2) (pb.mono hcap2) (by omega) rfl W xa ya c d hG hx hy)
  have S2 := Lib.hid (fun W xa ya c d hG hx hy => HMO.sumB ob oa (pb.mono hcap2) (pa.mono hcap2) (by rw [addB_comm ob.asc oa.asc ob.nz oa.nz]; omega) (addB_comm ob.asc oa.asc ob.nz oa.nz) W xa ya c d hG hx hy)
  have S3 := Lib.hid (fun W xa ya c d hG hx hy => HMO.sumB ox oc (px.mono hcap) (pc.mono hcap2) (by omega) rfl W xa ya c d hG hx hy)
  have S4 := Lib.hid (fun W xa ya c d hG hx hy => HMO.sumB ob oc (pb.mono hcap2) (pc.mono hcap2) (by omega) rfl W xa ya c d hG hx hy)
  have S5 := Lib.hid (fun W xa ya c d hG hx hy => HMO.sumB oa oz (pa.mono hcap2) (pz.mono hcap) (by omega) (addB_assoc oa.asc ob.asc oc.asc oa.nz).symm W xa ya c d hG hx hy)
  have N6 := Lib.hid (fun W xa c hG hx => HMO.negB' oa (pa.mono hcap2) W xa c hG hx)
  have S7 := Lib.hid (fun W xa ya c d hG hx hy => HMO.sumB oa on (pa.mono hcap2) (pn.mono hcap2) (by rw [addB_neg oa.asc oa.nz]; simp) (addB_neg oa.asc oa.nz) W xa ya c d hG hx hy)
  have S8 := Lib.hid (fun W xa c hG hx => HMO.sumB oa okB_nil (pa.mono hcap2) (capB_nil _) (by rw [addB_nil]; omega) (addB_nil A) W xa none c 0 hG hx (Rc.nil _ _ _))
  have K9 := Lib.hid (fun W xa c hG hx => HMO.chkB ox (px.mono hcap) W xa c hG hx)
  have C1 := Lib.hid (fun W xa c hG hx => HMO.chkB oa (pa.mono hcap2) W xa c hG hx)
  have C2 := Lib.hid (fun W xa c hG hx => HMO.chkB ob (pb.mono hcap2) W xa c hG hx)
  have C3 := Lib.hid (fun W xa c hG hx => HMO.chkB oc (pc.mono hcap2) W xa c hG hx)
  have hxf := ox.few
  have hlf : (addB (addB A B) C).length ≤ 16 := by omega
  have hnl : (negB A).length = A.length := by unfold negB; rw [List.length_map]
  rw [hnl] at S7
  obtain ⟨X, hX⟩ : ∃ X, addB A B = X := ⟨_, rfl⟩
  obtain ⟨Z, hZ⟩ : ∃ Z, addB B C = Z := ⟨_, rfl⟩
  rw [hX] at S1 S2 S3 S5 K9 hxf hlf
  rw [hZ] at S4 S5
  obtain ⟨L, hL⟩ : ∃ L, addB X C = L := ⟨_, rfl⟩
  rw [hL] at S3 S5 hlf
  have EX := Lib.hid (fun W xa ya c d hx hy => eqBag X (by omega) W xa ya c d hx hy)
  have EL := Lib.hid (fun W xa ya c d hx hy => eqBag L (by omega) W xa ya c d hx hy)
  have EA := Lib.hid (fun W xa ya c d hx hy => eqBag A (by omega) W xa ya c d hx hy)
  have HA := Lib.hid ra
  have HB := Lib.hid rb
  have HC := Lib.hid rc
  have HNL := Lib.hid hnl
  unfold BagP at S1 S2 S3 S4 S5 N6 S7 S8
  unfold ValP at HAW K9 C1 C2 C3 EX EL EA ⊢
  simp only [List.length_nil, Nat.add_zero] at S7 S8
  rw [hnl] at N6
  clear hx hy hz hn hm hk hg hg1 HMO HMO' hG hsa hsb hsc hna hnb hnc hl h1 h2 h3 oa ob oc pa pb pc ra rb rc lx ox px lz oz pz ll lr on pn hcap hcap2 hX hZ hL hA hB hC hnl HNL hxf hlf
  go_enter Tryz.func7, Tryz.ntmps7
  go_wp2_with fail
  refine HGR.out.mono ?_
  rintro _ w1 ⟨rfl, hb⟩
  go_wp2_with fail
  refine Calls.mono (C1.out _ _ _ (HG.out.below hb) (HA.out.belowAt hb (Nat.le_refl _))) ?_
  rintro _ _ ⟨rfl, hB⟩
  replace hb := hb.trans (hB.mono hb.size)
  clear hB
  go_wp2_with fail
  refine Calls.mono (C2.out _ _ _ (HG.out.below hb) (HB.out.belowAt hb (Nat.le_refl _))) ?_
  rintro _ _ ⟨rfl, hB⟩
  replace hb := hb.trans (hB.mono hb.size)
  clear hB
  go_wp2_with fail
  refine Calls.mono (C3.out _ _ _ (HG.out.below hb) (HC.out.belowAt hb (Nat.le_refl _))) ?_
  rintro _ _ ⟨rfl, hB⟩
  replace hb := hb.trans (hB.mono hb.size)
  clear hB
  go_wp2_with fail
  refine Calls.mono (S1.out _ _ _ _ _ (HG.out.below hb) (HA.out.belowAt hb (Nat.le_refl _)) (HB.out.belowAt hb (Nat.le_refl _))) ?_
  rintro _ _ ⟨xa, xc, rfl, xr, hB⟩
  replace hb := hb.trans (hB.mono hb.size)
  clear hB
  go_wp2_with fail
  refine Calls.mono (S2.out _ _ _ _ _ (HG.out.below hb) (HB.out.belowAt hb (Nat.le_refl _)) (HA.out.belowAt hb (Nat.le_refl _))) ?_
  rintro _ _ ⟨ya, yc, rfl, yr, hB⟩
  replace xr := Rc.below xr hB
  replace hb := hb.trans (hB.mono hb.size)
  clear hB
  go_wp2_with fail
  refine Calls.mono (S3.out _ _ _ _ _ (HG.out.below hb) xr (HC.out.belowAt hb (Nat.le_refl _))) ?_
  rintro _ _ ⟨la, lc, rfl, lr, hB⟩
  replace xr := Rc.below xr hB
  replace yr := Rc.below yr hB
  replace hb := hb.trans (hB.mono hb.size)
  clear hB
  go_wp2_with fail
  refine Calls.mono (S4.out _ _ _ _ _ (HG.out.below hb) (HB.out.belowAt hb (Nat.le_refl _)) (HC.out.belowAt hb (Nat.le_refl _))) ?_
  rintro _ _ ⟨za, zc, rfl, zr, hB⟩
  replace xr := Rc.below xr hB
  replace yr := Rc.below yr hB
  replace lr := Rc.below lr hB
  replace hb := hb.trans (hB.mono hb.size)
  clear hB
  go_wp2_with fail
  refine Calls.mono (S5.out _ _ _ _ _ (HG.out.below hb) (HA.out.belowAt hb (Nat.le_refl _)) zr) ?_
  rintro _ _ ⟨ra, rc, rfl, rr, hB⟩
  replace xr := Rc.below xr hB
  replace yr := Rc.below yr hB
  replace lr := Rc.below lr hB
  replace zr := Rc.below zr hB
  replace hb := hb.trans (hB.mono hb.size)
  clear hB
  go_wp2_with fail
  refine Calls.mono (N6.out _ _ _ (HG.out.below hb) (HA.out.belowAt hb (Nat.le_refl _))) ?_
  rintro _ _ ⟨ga, gc, rfl, gr, hB⟩
  replace xr := Rc.below xr hB
  replace yr := Rc.below yr hB
  replace lr := Rc.below lr hB
  replace rr := Rc.below rr hB
  replace hb := hb.trans (hB.mono hb.size)
  clear hB
  go_wp2_with fail
  refine Calls.mono (S7.out _ _ _ _ _ (HG.out.below hb) (HA.out.belowAt hb (Nat.le_refl _)) gr) ?_
  rintro _ _ ⟨ea, ec, rfl, er, hB⟩
  replace xr := Rc.below xr hB
  replace yr := Rc.below yr hB
  replace lr := Rc.below lr hB
  replace rr := Rc.below rr hB
  replace gr := Rc.below gr hB
  replace hb := hb.trans (hB.mono hb.size)
  clear hB
  go_wp2_with fail
  refine Calls.mono (S8.out _ _ _ (HG.out.below hb) (HA.out.belowAt hb (Nat.le_refl _))) ?_
  rintro _ _ ⟨fa, fc, rfl, fr, hB⟩
  replace xr := Rc.below xr hB
  replace yr := Rc.below yr hB
  replace lr := Rc.below lr hB
  replace rr := Rc.below rr hB
  replace hb := hb.trans (hB.mono hb.size)
  clear hB
  have hmax8 : ∀ W : World, (Builtin.max_ #[29, 29, 29, 29, 29, 29, 29, 29] 29 #[.int .i64 0, .int .i64 0, .int .i64 0, .int .i64 0, .int .i64 0, .int .i64 0, .int .i64 0, .int .i64 0]).run Tryz.prog W = .ok (.int .i64 0) W := fun W => by simp [Builtin.max_, Builtin.max2]
  go_wp2_with fail
  refine Calls.mono (EX.out _ _ _ _ _ xr yr) ?_
  rintro _ _ ⟨rfl, hB⟩
  replace xr := Rc.below xr hB
  replace lr := Rc.below lr hB
  replace rr := Rc.below rr hB
  replace fr := Rc.below fr hB
  replace hb := hb.trans (hB.mono hb.size)
  clear hB
  go_wp2_with fail
  refine Calls.mono (EL.out _ _ _ _ _ lr rr) ?_
  rintro _ _ ⟨rfl, hB⟩
  replace xr := Rc.below xr hB
  replace fr := Rc.below fr hB
  replace hb := hb.trans (hB.mono hb.size)
  clear hB
  have hAr := HA.out.belowAt hb (Nat.le_refl _)
  go_wp2_with fail
  refine Calls.mono (EA.out _ _ _ _ _ fr hAr) ?_
  rintro _ _ ⟨rfl, hB⟩
  replace xr := Rc.below xr hB
  replace hb := hb.trans (hB.mono hb.size)
  clear hB
  go_wp2_with fail
  refine Calls.mono (K9.out _ _ _ (HG.out.below hb) xr) ?_
  rintro _ _ ⟨rfl, hB⟩
  replace hb := hb.trans (hB.mono hb.size)
  clear hB
  go_wp2_with fail
  refine (HAW.out _ (HG.out.below hb)).mono ?_
  rintro _ w2 ⟨rfl, hB⟩
  go_wp2_with fail
  go_ret
  exact ⟨rfl, hb.trans (hB.mono hb.size)⟩

end Go.Proofs.YtahnkmkmoalbhaaGreatDoor

/- Layer 5: the law MoneyReads over contracts of Text and Parse. -/
namespace Go.Proofs.YtahnkmkmoalbhaaGreatDoor
open Go.RowKit

/-- from a table: Text -/
def OnT (F : FuncId) (n : Nat) (c : Nat → ByteArray) (p : Nat → Int) (x z : ByteArray) (v : Value) : Prop := ∀ W xa cap, Ground W → Rt W xa n c p → Calls Tryz.prog F #[.slice xa n (n + cap), .agg #[.string x, .string z]] W (ValP v W)
/-- from a table: Parse -/
def OnP (F : FuncId) (n : Nat) (c : Nat → ByteArray) (p : Nat → Int) (s : ByteArray) (v : Value) : Prop := ∀ W xa cap, Ground W → Rt W xa n c p → Calls Tryz.prog F #[.slice xa n (n + cap), .string s] W (ValP v W)
theorem money_guarde (x y : Operand) (a b c d : ByteArray) (W : World) : (eqGuard .eql 35 x y (.agg #[.string a, .string b]) (.agg #[.string c, .string d])).run Tryz.prog W = .ok () W := money_guard _ _ _ _ _ _ _ _
theorem money_same (a b : ByteArray) (W : World) : (binOp .eql 35 (.agg #[.string a, .string b]) (.agg #[.string a, .string b])).run Tryz.prog W = .ok (.bool true) W := by
  rw [money_eql]; simp

end Go.Proofs.YtahnkmkmoalbhaaGreatDoor
