/- The reference of layer 5: Put, Neg: the walks. -/
import Derived.Test.YtahnkmkmoalbhaaGreatDoorZAG
import Derived.Test.YtahnkmkmoalbhaaGreatDoorZAH
import Derived.Laws.StructEq
namespace Go.Proofs.YtahnkmkmoalbhaaGreatDoor
open Go.RowKit

theorem can_cs {z : ByteArray} (h : isCan z = true) : z = cS (vS z) := by
  unfold isCan at h
  have := of_decide_eq_true h
  first | exact this.symm | exact this
theorem good_nz {n : Nat} {u v : Nat → ByteArray} (g : GoodB isCan n u v) : NZ (rowB n u v) := bagL_nz.2 fun i hi e => g.nz i hi (by rw [can_cs (g.can i hi), e, cS_zero])
theorem good_rb {w : World} {xa : Option Addr} {n : Nat} {u v : Nat → ByteArray} (g : GoodB isCan n u v) (h : Rf w xa n u v) : RB w xa (rowB n u v) := RB.of h fun i hi => can_cs (g.can i hi)

set_option maxRecDepth 100000 in
set_option maxHeartbeats 16000000 in
theorem rPut_bag (w : World) (xa : Option Addr) (n cap : Nat) (u v : Nat → ByteArray) (c z : ByteArray) (hr : Rf w xa n u v) (hf : FitB n u v) (h : bagE isCan n u v ≠ 0) :
    Calls Tryz.prog 21 #[.slice xa n cap, .agg #[.string c, .string z]] w fun e w' => e = .returned (nilM 1) ∧ Below w.heap.size w w' := by
  have HCK := Lib.hid (rBag (w.alloc (.cells #[.string c, .string z] 35)) xa n cap u v (hr.alloc _) hf)
  obtain ⟨W0, hW0⟩ : ∃ W, W = w.alloc (.cells #[.string c, .string z] 35) := ⟨_, rfl⟩
  have HX := Lib.hid (show PairAt W0 w.heap.size 35 c z by rw [hW0]; exact PairAt.made _ _ _ _)
  have HB := Lib.hid (show Below w.heap.size w W0 by rw [hW0]; exact (Below.refl _ _).alloc (Nat.le_refl _) _)
  rw [← hW0] at HCK
  obtain ⟨d, hd⟩ : ∃ d, bagE isCan n u v = d := ⟨_, rfl⟩
  rw [hd] at HCK h
  have hb : (d != 0) = true := by rw [bne_iff_ne]; exact h
  unfold nilM
  clear hd h hr hf
  go_enter Tryz.func21, Tryz.ntmps21
  go_upto_region 1 with fail
  rw [← hW0]
  clear hW0
  go_wp2_with fail
  refine HCK.out.mono ?_
  rintro _ _ ⟨rfl, q, rfl⟩
  go_wp2_with fail
  go_ret2
  exact ⟨rfl, below_drewN HB.out q⟩

set_option maxRecDepth 100000 in
set_option maxHeartbeats 16000000 in
theorem rPut_code (w : World) (xa : Option Addr) (n cap : Nat) (u v : Nat → ByteArray) (c z : ByteArray) (hr : Rf w xa n u v) (hf : FitB n u v) (hc : c.size ≤ 1000) (h : bagE isCan n u v = 0) (h1 : codeS c = false) :
    Calls Tryz.prog 21 #[.slice xa n cap, .agg #[.string c, .string z]] w fun e w' => e = .returned (nilM 23) ∧ Below w.heap.size w w' := by
  have HCK := Lib.hid (rBag (w.alloc (.cells #[.string c, .string z] 35)) xa n cap u v (hr.alloc _) hf)
  obtain ⟨W0, hW0⟩ : ∃ W, W = w.alloc (.cells #[.string c, .string z] 35) := ⟨_, rfl⟩
  have HX := Lib.hid (show PairAt W0 w.heap.size 35 c z by rw [hW0]; exact PairAt.made _ _ _ _)
  have HB := Lib.hid (show Below w.heap.size w W0 by rw [hW0]; exact (Below.refl _ _).alloc (Nat.le_refl _) _)
  rw [← hW0] at HCK
  rw [h] at HCK
  have HCO := Lib.hid (fun W => rCode c W (by omega))
  rw [h1] at HCO
  unfold nilM
  clear h h1 hr hf
  go_enter Tryz.func21, Tryz.ntmps21
  go_upto_region 1 with fail
  rw [← hW0]
  clear hW0
  go_wp2_with fail
  refine HCK.out.mono ?_
  rintro _ _ ⟨rfl, q, rfl⟩
  have HX2 := Lib.hid (show PairAt (W0.drewN q) w.heap.size 35 c z from HX.out)
  obtain ⟨q1, q2, _, _⟩ := HX2.out.cells
  go_wp2_with fail
  refine (HCO.out _).mono ?_
  rintro _ _ ⟨rfl, rfl⟩
  go_wp2_with fail
  go_ret2
  exact ⟨rfl, below_drewN HB.out q⟩

set_option maxRecDepth 100000 in
set_option maxHeartbeats 16000000 in
theorem rPut_can (w : World) (xa : Option Addr) (n cap : Nat) (u v : Nat → ByteArray) (c z : ByteArray) (hr : Rf w xa n u v) (hf : FitB n u v) (hc : c.size ≤ 1000) (hz : z.size ≤ 1000) (h : bagE isCan n u v = 0) (h1 : codeS c = true) (h2 : isCan z = false) :
    Calls Tryz.prog 21 #[.slice xa n cap, .agg #[.string c, .string z]] w fun e w' => e = .returned (nilM 1) ∧ Below w.heap.size w w' := by
  have HCK := Lib.hid (rBag (w.alloc (.cells #[.string c, .string z] 35)) xa n cap u v (hr.alloc _) hf)
  obtain ⟨W0, hW0⟩ : ∃ W, W = w.alloc (.cells #[.string c, .string z] 35) := ⟨_, rfl⟩
  have HX := Lib.hid (show PairAt W0 w.heap.size 35 c z by rw [hW0]; exact PairAt.made _ _ _ _)
  have HB := Lib.hid (show Below w.heap.size w W0 by rw [hW0]; exact (Below.refl _ _).alloc (Nat.le_refl _) _)
  rw [← hW0] at HCK
  rw [h] at HCK
  have HCO := Lib.hid (fun W => rCode c W (by omega))
  have HCA := Lib.hid (fun W => rCheck_any z W (by omega))
  rw [h1] at HCO
  rw [show chk z = 1 by unfold chk; rw [h2]; rfl] at HCA
  unfold nilM
  clear h h1 h2 hr hf
  go_enter Tryz.func21, Tryz.ntmps21
  go_upto_region 1 with fail
  rw [← hW0]
  clear hW0
  go_wp2_with fail
  refine HCK.out.mono ?_
  rintro _ _ ⟨rfl, q, rfl⟩
  have HX2 := Lib.hid (show PairAt (W0.drewN q) w.heap.size 35 c z from HX.out)
  obtain ⟨q1, q2, _, _⟩ := HX2.out.cells
  go_wp2_with fail
  refine (HCO.out _).mono ?_
  rintro _ _ ⟨rfl, rfl⟩
  go_wp2_with fail
  refine (HCA.out _).mono ?_
  rintro _ _ ⟨rfl, rfl⟩
  go_wp2_with fail
  go_ret2
  exact ⟨rfl, below_drewN HB.out q⟩

set_option maxRecDepth 100000 in
set_option maxHeartbeats 16000000 in
theorem rPut_many (w : World) (xa : Option Addr) (n cap : Nat) (u v : Nat → ByteArray) (c z : ByteArray) (hr : Rf w xa n u v) (hf : FitB n u v) (hc : c.size ≤ 1000) (hz : z.size ≤ 25) (h : bagE isCan n u v = 0) (h1 : codeS c = true) (h2 : isCan z = true) (hs : ∀ i, i < n → (vS (v i)).natAbs < 10 ^ 30) (hl : 16 < (put (rowB n u v) c (vS z)).length) :
    Calls Tryz.prog 21 #[.slice xa n cap, .agg #[.string c, .string z]] w fun e w' => e = .returned (nilM 4) ∧ Below w.heap.size w w' := by
  have HCK := Lib.hid (rBag (w.alloc (.cells #[.string c, .string z] 35)) xa n cap u v (hr.alloc _) hf)
  obtain ⟨W0, hW0⟩ : ∃ W, W = w.alloc (.cells #[.string c, .string z] 35) := ⟨_, rfl⟩
  have HX := Lib.hid (show PairAt W0 w.heap.size 35 c z by rw [hW0]; exact PairAt.made _ _ _ _)
  have HB := Lib.hid (show Below w.heap.size w W0 by rw [hW0]; exact (Below.refl _ _).alloc (Nat.le_refl _) _)
  rw [← hW0] at HCK
  rw [h] at HCK
  have HCO := Lib.hid (fun W => rCode c W (by omega))
  have HCA := Lib.hid (fun W => rCheck_any z W (by omega))
  rw [h1] at HCO
  rw [show chk z = 0 by unfold chk; rw [h2]; rfl] at HCA
  have hg := bagE_zero h
  have hn16 := hg.few
  have hzs : (vS z).natAbs < 10 ^ 30 := Nat.lt_of_lt_of_le (Cap.of hz rfl) (Nat.pow_le_pow_right (by decide) (by decide))
  have HWI := Lib.hid (fun q hr => rWith (W0.drewN q) xa cap (rowB n u v) c (vS z) hr (good_nz hg) (by unfold rowB; rw [bagL_len]; omega) (fun p hp => by
    unfold rowB bagL at hp
    obtain ⟨i, hi, rfl⟩ := List.mem_map.1 hp
    exact hs i (List.mem_range.1 hi)) hzs)
  rw [← can_cs h2, show (rowB n u v).length = n from bagL_len _ _ _] at HWI
  have HRB := Lib.hid (show RB W0 xa (rowB n u v) by rw [hW0]; exact (good_rb hg hr).alloc _)
  try unfold nilM
  clear h h1 h2 hr hf hg hs hzs
  go_enter Tryz.func21, Tryz.ntmps21
  go_upto_region 1 with fail
  rw [← hW0]
  clear hW0
  go_wp2_with fail
  refine HCK.out.mono ?_
  rintro _ _ ⟨rfl, q, rfl⟩
  have HX2 := Lib.hid (show PairAt (W0.drewN q) w.heap.size 35 c z from HX.out)
  obtain ⟨q1, q2, _, _⟩ := HX2.out.cells
  go_wp2_with fail
  refine (HCO.out _).mono ?_
  rintro _ _ ⟨rfl, rfl⟩
  go_wp2_with fail
  refine (HCA.out _).mono ?_
  rintro _ _ ⟨rfl, rfl⟩
  go_wp2_with fail
  refine (HWI.out q (HRB.out.drewN q)).mono ?_
  rintro _ w3 ⟨ya, cy, rfl, hrb, hB⟩
  have HRB3 := Lib.hid hrb
  have HB3 := Lib.hid ((below_drewN HB.out q).trans (hB.mono (below_drewN HB.out q).size))
  clear hB hrb HRB HWI
  have hi : (16 : Int) < ((put (rowB n u v) c (vS z)).length : Int) := by omega
  go_wp2_with fail
  go_ret2
  exact ⟨rfl, HB3.out⟩

set_option maxRecDepth 100000 in
set_option maxHeartbeats 16000000 in
theorem rPut_ok (w : World) (xa : Option Addr) (n cap : Nat) (u v : Nat → ByteArray) (c z : ByteArray) (hr : Rf w xa n u v) (hf : FitB n u v) (hc : c.size ≤ 1000) (hz : z.size ≤ 25) (h : bagE isCan n u v = 0) (h1 : codeS c = true) (h2 : isCan z = true) (hs : ∀ i, i < n → (vS (v i)).natAbs < 10 ^ 30) (hl : (put (rowB n u v) c (vS z)).length ≤ 16) :
    Calls Tryz.prog 21 #[.slice xa n cap, .agg #[.string c, .string z]] w fun e w' => ∃ ya cy, e = .returned (.tuple #[.slice ya (put (rowB n u v) c (vS z)).length cy, .int .i64 0]) ∧ RB w' ya (put (rowB n u v) c (vS z)) ∧ Below w.heap.size w w' := by
  have HCK := Lib.hid (rBag (w.alloc (.cells #[.string c, .string z] 35)) xa n cap u v (hr.alloc _) hf)
  obtain ⟨W0, hW0⟩ : ∃ W, W = w.alloc (.cells #[.string c, .string z] 35) := ⟨_, rfl⟩
  have HX := Lib.hid (show PairAt W0 w.heap.size 35 c z by rw [hW0]; exact PairAt.made _ _ _ _)
  have HB := Lib.hid (show Below w.heap.size w W0 by rw [hW0]; exact (Below.refl _ _).alloc (Nat.le_refl _) _)
  rw [← hW0] at HCK
  rw [h] at HCK
  have HCO := Lib.hid (fun W => rCode c W (by omega))
  have HCA := Lib.hid (fun W => rCheck_any z W (by omega))
  rw [h1] at HCO
  rw [show chk z = 0 by unfold chk; rw [h2]; rfl] at HCA
  have hg := bagE_zero h
  have hn16 := hg.few
  have hzs : (vS z).natAbs < 10 ^ 30 := Nat.lt_of_lt_of_le (Cap.of hz rfl) (Nat.pow_le_pow_right (by decide) (by decide))
  have HWI := Lib.hid (fun q hr => rWith (W0.drewN q) xa cap (rowB n u v) c (vS z) hr (good_nz hg) (by unfold rowB; rw [bagL_len]; omega) (fun p hp => by
    unfold rowB bagL at hp
    obtain ⟨i, hi, rfl⟩ := List.mem_map.1 hp
    exact hs i (List.mem_range.1 hi)) hzs)
  rw [← can_cs h2, show (rowB n u v).length = n from bagL_len _ _ _] at HWI
  have HRB := Lib.hid (show RB W0 xa (rowB n u v) by rw [hW0]; exact (good_rb hg hr).alloc _)
  try unfold nilM
  clear h h1 h2 hr hf hg hs hzs
  go_enter Tryz.func21, Tryz.ntmps21
  go_upto_region 1 with fail
  rw [← hW0]
  clear hW0
  go_wp2_with fail
  refine HCK.out.mono ?_
  rintro _ _ ⟨rfl, q, rfl⟩
  have HX2 := Lib.hid (show PairAt (W0.drewN q) w.heap.size 35 c z from HX.out)
  obtain ⟨q1, q2, _, _⟩ := HX2.out.cells
  go_wp2_with fail
  refine (HCO.out _).mono ?_
  rintro _ _ ⟨rfl, rfl⟩
  go_wp2_with fail
  refine (HCA.out _).mono ?_
  rintro _ _ ⟨rfl, rfl⟩
  go_wp2_with fail
  refine (HWI.out q (HRB.out.drewN q)).mono ?_
  rintro _ w3 ⟨ya, cy, rfl, hrb, hB⟩
  have HRB3 := Lib.hid hrb
  have HB3 := Lib.hid ((below_drewN HB.out q).trans (hB.mono (below_drewN HB.out q).size))
  clear hB hrb HRB HWI
  have hi : ¬ (16 : Int) < ((put (rowB n u v) c (vS z)).length : Int) := by omega
  go_wp2_with fail
  go_ret2
  exact ⟨ya, cy, rfl, HRB3.out, HB3.out⟩

set_option maxRecDepth 100000 in
set_option maxHeartbeats 16000000 in
theorem rNegB_bad (w : World) (xa : Option Addr) (n cap : Nat) (u v : Nat → ByteArray) (hr : Rf w xa n u v) (hf : FitB n u v) (h : bagE isCan n u v ≠ 0) :
    Calls Tryz.prog 23 #[.slice xa n cap] w fun e w' => e = .returned (nilM 1) ∧ Below w.heap.size w w' := by
  have HCK := Lib.hid (rBag w xa n cap u v hr hf)
  obtain ⟨d, hd⟩ : ∃ d, bagE isCan n u v = d := ⟨_, rfl⟩
  rw [hd] at HCK h
  have hb : (d != 0) = true := by rw [bne_iff_ne]; exact h
  unfold nilM
  clear hd h hr hf
  go_enter Tryz.func23, Tryz.ntmps23
  go_wp2_with fail
  refine HCK.out.mono ?_
  rintro _ _ ⟨rfl, q, rfl⟩
  go_wp2_with fail
  go_ret2
  exact ⟨rfl, below_drewN (Below.refl _ _) q⟩

set_option maxRecDepth 100000 in
set_option maxHeartbeats 16000000 in
theorem rNegB_ok (w : World) (xa : Option Addr) (n cap : Nat) (u v : Nat → ByteArray) (hr : Rf w xa n u v) (hf : FitB n u v) (h : bagE isCan n u v = 0) :
    Calls Tryz.prog 23 #[.slice xa n cap] w fun e w' => ∃ ya cy, e = .returned (.tuple #[.slice ya n cy, .int .i64 0]) ∧ RB w' ya (negB (rowB n u v)) ∧ Below w.heap.size w w' := by
  have HCK := Lib.hid (rBag w xa n cap u v hr hf)
  rw [h] at HCK
  have hg := bagE_zero h
  have hn16 := hg.few
  have HCS := Lib.hid (fun i hi => can_cs (hg.can i hi))
  have HR := Lib.hid hr
  have HF := Lib.hid hf
  obtain ⟨S0, hS0⟩ : ∃ s, w.heap.size = s := ⟨_, rfl⟩
  have HS0 := Lib.hid hS0
  have hln : (negB (rowB n u v)).length = n := by unfold negB; rw [List.length_map]; exact bagL_len _ _ _
  have HLN := Lib.hid hln
  have HAT := Lib.hid (fun k (hk : k < n) => (show (negB (rowB n u v))[k]? = some (u k, -vS (v k)) by
    unfold negB rowB
    rw [List.getElem?_map, bagL_at hk]; rfl))
  clear h hg hr hf hln hS0
  go_enter Tryz.func23, Tryz.ntmps23
  go_wp2_with fail
  refine HCK.out.mono ?_
  rintro _ _ ⟨rfl, q, rfl⟩
  clear HCK
  go_upto_region 4 with fail
  obtain ⟨W1, hW1⟩ : ∃ W, W = (w.drewN q).alloc (.cells #[] 35) := ⟨_, rfl⟩
  have HO0 := Lib.hid (show OB W1 S0 (.slice (some ⟨w.heap.size, 0, none⟩) 0 0) [] by
    rw [hW1]
    exact OB.made (w := w.drewN q) (base := S0) (by have := HS0.out; show S0 ≤ w.heap.size; omega))
  have HB0 := Lib.hid (show Below w.heap.size w W1 by rw [hW1]; exact (below_drewN (Below.refl _ _) q).alloc (Nat.le_refl _) _)
  rw [← hW1]
  clear hW1
  go_wp2_with fail
  go_loopw [4, 5] (fun ov iv wr => ∃ (k : Nat) (vv : Value), k ≤ n ∧ iv = .int .i64 (k : Int) ∧ vv = ov ∧ Hid (OB wr S0 vv ((negB (rowB n u v)).take k)) ∧ Hid (Below w.heap.size w wr)) (fun _ iv _ => n - (intOf iv).toNat)
  case atStart => exact ⟨0, _, Nat.zero_le _, rfl, rfl, HO0, HB0⟩
  case round =>
    clear HO0 HB0
    obtain ⟨k, vv, hk, rfl, rfl, HO, HB⟩ := hrel
    have hw1 : IntKind.i64.wrap ((k : Int) + 1) = (k : Int) + 1 := IntWalk.i64_in _ (by omega)
    by_cases hlt : k < n
    · obtain ⟨zb, zo, rfl, hzb, z1, z2⟩ := Rf.at HR.out hlt
      have m1 := (HB.out.cell (p := ⟨zb, zo + k * 2, none⟩) hzb).trans z1
      have m2 := (HB.out.cell (p := ⟨zb, zo + k * 2 + 1, none⟩) hzb).trans z2
      have hsv := HF.out.num k hlt
      have HNG := Lib.hid (fun W => rNeg_any (v k) W (by omega))
      have hat := HAT.out k hlt
      obtain ⟨uk, huk⟩ : ∃ x, u k = x := ⟨_, rfl⟩
      obtain ⟨sk, hsk⟩ : ∃ x, v k = x := ⟨_, rfl⟩
      rw [huk, hsk] at hat
      rw [huk] at z1 m1
      rw [hsk] at z2 m2 HNG
      obtain ⟨pk, hpk⟩ : ∃ p, vS sk = p := ⟨_, rfl⟩
      rw [hpk] at HNG hat
      obtain ⟨sn, hsn⟩ : ∃ s, cS (-pk) = s := ⟨_, rfl⟩
      rw [hsn] at HNG
      have HSN := Lib.hid hsn
      have HTK := Lib.hid (take_at hat)
      have hkn : (k : Int) < (n : Int) := by omega
      clear huk hsk hpk hsn hat hsv
      go_wp2_with fail
      refine wp_region_held_drew (S := fun w' => w'.cell? ⟨zb, zo + k * 2, none⟩ = some (.string uk) ∧ w'.cell? ⟨zb, zo + k * 2 + 1, none⟩ = some (.string sk)) (by kernel_rfl) (by (try dsimp only); go_keep) (fun hHeld => ?_)
      refine wpAnyH_take (i := 0) (oi := { dst := some 16, op := Op.move (Operand.tmp 4), type := 32, pos := "ref.go:147", after := #[], guard := none }) (v := ?_) rfl (by kernel_rfl) (by kernel_rfl) (by kernel_rfl) (fun _ _ _ h => h) (Or.inl ⟨by rfl, ?_⟩) (by assumption) ?_
      rotate_left
      focus ((intro w hSw; (try dsimp only at hSw); go_simp); (try with_reducible rfl))
      try simp only [Act.put, List.setIfInBounds_toArray, List.set_cons_zero, List.set_cons_succ]
      refine wpAnyH_take (i := 1) (oi := { dst := some 17, op := Op.move (Operand.tmp 0), type := 32, pos := "ref.go:147", after := #[], guard := none }) (v := ?_) rfl (by kernel_rfl) (by kernel_rfl) (by kernel_rfl) (fun _ _ _ h => h) (Or.inl ⟨by rfl, ?_⟩) (by assumption) ?_
      rotate_left
      focus ((intro w hSw; (try dsimp only at hSw); go_simp); (try with_reducible rfl))
      try simp only [Act.put, List.setIfInBounds_toArray, List.set_cons_zero, List.set_cons_succ]
      refine wpAnyH_take (i := 2) (oi := { dst := some 18, op := Op.move (Operand.tmp 5), type := 3, pos := "ref.go:147", after := #[], guard := none }) (v := ?_) rfl (by kernel_rfl) (by kernel_rfl) (by kernel_rfl) (fun _ _ _ h => h) (Or.inl ⟨by rfl, ?_⟩) (by assumption) ?_
      rotate_left
      focus ((intro w hSw; (try dsimp only at hSw); go_simp); (try with_reducible rfl))
      try simp only [Act.put, List.setIfInBounds_toArray, List.set_cons_zero, List.set_cons_succ]
      refine wpAnyH_take (i := 3) (oi := { dst := some 19, op := Op.indexAddr 32 (Operand.tmp 17) (Operand.tmp 18), type := 0, pos := "ref.go:147", after := #[{ on := 1, ground := Ground.data }, { on := 2, ground := Ground.data }], guard := none }) (v := ?_) rfl (by kernel_rfl) (by kernel_rfl) (by kernel_rfl) (fun _ _ _ h => h) (Or.inl ⟨by rfl, ?_⟩) (by assumption) ?_
      rotate_left
      focus ((intro w hSw; (try dsimp only at hSw); go_simp); (try with_reducible rfl))
      try simp only [Act.put, List.setIfInBounds_toArray, List.set_cons_zero, List.set_cons_succ]
      refine wpAnyH_take (i := 4) (oi := { dst := some 20, op := Op.fieldAddr 35 (Operand.tmp 19) 0, type := 0, pos := "ref.go:147", after := #[{ on := 3, ground := Ground.data }], guard := none }) (v := ?_) rfl (by kernel_rfl) (by kernel_rfl) (by kernel_rfl) (fun _ _ _ h => h) (Or.inl ⟨by rfl, ?_⟩) (by assumption) ?_
      rotate_left
      focus ((intro w hSw; (try dsimp only at hSw); go_simp); (try with_reducible rfl))
      try simp only [Act.put, List.setIfInBounds_toArray, List.set_cons_zero, List.set_cons_succ]
      refine wpAnyH_take (i := 5) (oi := { dst := some 21, op := Op.load 9 (Operand.tmp 20), type := 9, pos := "ref.go:147", after := #[{ on := 4, ground := Ground.data }], guard := none }) (v := ?_) rfl (by kernel_rfl) (by kernel_rfl) (by kernel_rfl) (fun _ _ _ h => h) (Or.inl ⟨by rfl, ?_⟩) (by assumption) ?_
      rotate_left
      focus ((intro w hSw; (try dsimp only at hSw); go_simp); (try with_reducible rfl))
      try simp only [Act.put, List.setIfInBounds_toArray, List.set_cons_zero, List.set_cons_succ]
      refine wpAnyH_take (i := 6) (oi := { dst := some 22, op := Op.move (Operand.tmp 0), type := 32, pos := "ref.go:147", after := #[], guard := none }) (v := ?_) rfl (by kernel_rfl) (by kernel_rfl) (by kernel_rfl) (fun _ _ _ h => h) (Or.inl ⟨by rfl, ?_⟩) (by assumption) ?_
      rotate_left
      focus ((intro w hSw; (try dsimp only at hSw); go_simp); (try with_reducible rfl))
      try simp only [Act.put, List.setIfInBounds_toArray, List.set_cons_zero, List.set_cons_succ]
      refine wpAnyH_take (i := 7) (oi := { dst := some 23, op := Op.move (Operand.tmp 5), type := 3, pos := "ref.go:147", after := #[], guard := none }) (v := ?_) rfl (by kernel_rfl) (by kernel_rfl) (by kernel_rfl) (fun _ _ _ h => h) (Or.inl ⟨by rfl, ?_⟩) (by assumption) ?_
      rotate_left
      focus ((intro w hSw; (try dsimp only at hSw); go_simp); (try with_reducible rfl))
      try simp only [Act.put, List.setIfInBounds_toArray, List.set_cons_zero, List.set_cons_succ]
      refine wpAnyH_take (i := 8) (oi := { dst := some 24, op := Op.indexAddr 32 (Operand.tmp 22) (Operand.tmp 23), type := 0, pos := "ref.go:147", after := #[{ on := 6, ground := Ground.data }, { on := 7, ground := Ground.data }], guard := none }) (v := ?_) rfl (by kernel_rfl) (by kernel_rfl) (by kernel_rfl) (fun _ _ _ h => h) (Or.inl ⟨by rfl, ?_⟩) (by assumption) ?_
      rotate_left
      focus ((intro w hSw; (try dsimp only at hSw); go_simp); (try with_reducible rfl))
      try simp only [Act.put, List.setIfInBounds_toArray, List.set_cons_zero, List.set_cons_succ]
      refine wpAnyH_take (i := 9) (oi := { dst := some 25, op := Op.fieldAddr 35 (Operand.tmp 24) 1, type := 0, pos := "ref.go:147", after := #[{ on := 8, ground := Ground.data }], guard := none }) (v := ?_) rfl (by kernel_rfl) (by kernel_rfl) (by kernel_rfl) (fun _ _ _ h => h) (Or.inl ⟨by rfl, ?_⟩) (by assumption) ?_
      rotate_left
      focus ((intro w hSw; (try dsimp only at hSw); go_simp); (try with_reducible rfl))
      try simp only [Act.put, List.setIfInBounds_toArray, List.set_cons_zero, List.set_cons_succ]
      refine wpAnyH_take (i := 10) (oi := { dst := some 26, op := Op.load 33 (Operand.tmp 25), type := 33, pos := "ref.go:147", after := #[{ on := 9, ground := Ground.data }], guard := none }) (v := ?_) rfl (by kernel_rfl) (by kernel_rfl) (by kernel_rfl) (fun _ _ _ h => h) (Or.inl ⟨by rfl, ?_⟩) (by assumption) ?_
      rotate_left
      focus ((intro w hSw; (try dsimp only at hSw); go_simp); (try with_reducible rfl))
      try simp only [Act.put, List.setIfInBounds_toArray, List.set_cons_zero, List.set_cons_succ]
      refine wpAnyH_ready (rs := [11]) (by kernel_rfl) (by simp) ?_
      refine AllReadyH.cons (o := { dst := some 27, op := Op.call { callee := Callee.value (Operand.func 58), args := #[Operand.tmp 26], argTypes := #[33] }, type := 33, pos := "ref.go:147", after := #[{ on := 10, ground := Ground.data }], guard := none }) rfl (fun K hK => ?_) AllReadyH.nil
      clear hHeld
      go_simp
      refine (HNG.out _).mono ?_
      rintro _ _ ⟨rfl, rfl⟩
      go_wp2_with fail
      refine hK.out _ _ (by (try dsimp only); go_keep) (fun hHeld => ?_)
      clear hK K
      try simp only [Act.put, List.setIfInBounds_toArray, List.set_cons_zero, List.set_cons_succ]
      refine wpAnyH_take (i := 12) (oi := { dst := some 28, op := Op.build 35 #[(0, Operand.tmp 21), (1, Operand.tmp 27)], type := 35, pos := "ref.go:147", after := #[{ on := 5, ground := Ground.data }, { on := 11, ground := Ground.data }], guard := none }) (v := ?_) rfl (by kernel_rfl) (by kernel_rfl) (by kernel_rfl) (fun _ _ _ h => h) (Or.inl ⟨by rfl, ?_⟩) (by assumption) ?_
      rotate_left
      focus ((intro w hSw; (try dsimp only at hSw); go_simp); (try with_reducible rfl))
      try simp only [Act.put, List.setIfInBounds_toArray, List.set_cons_zero, List.set_cons_succ]
      refine wpAnyH_ready (rs := [13]) (by kernel_rfl) (by simp) ?_
      refine AllReadyH.cons (o := { dst := some 29, op := Op.buildSlice 32 1 #[(0, Operand.tmp 28)], type := 32, pos := "ref.go:147", after := #[{ on := 12, ground := Ground.data }], guard := none }) rfl (fun K hK => ?_) AllReadyH.nil
      clear hHeld
      go_simp
      have HO3 := Lib.hid (show OB (wr.drew.alloc (.cells #[.string uk, .string sn] 35)) S0 vv ((negB (rowB n u v)).take k) from OwnC.alloc (HO.out : OB wr.drew S0 vv ((negB (rowB n u v)).take k)) (.cells #[.string uk, .string sn] 35))
      have hle : S0 ≤ (wr.drew.alloc (.cells #[.string uk, .string sn] 35)).heap.size := by have := HB.out.size; have := HS0.out; rw [World.size_alloc]; show S0 ≤ wr.heap.size + 1; omega
      have HB3 := Lib.hid ((below_drew HB.out).alloc (below_drew HB.out).size (.cells #[.string uk, .string sn] 35))
      have HC1 := Lib.hid (show (wr.drew.alloc (.cells #[.string uk, .string sn] 35)).cell? ⟨wr.drew.heap.size, 0, none⟩ = some (.string uk) from cell_of_row _ _ _ _ _ _ (heap_alloc_new wr.drew _))
      have HC2 := Lib.hid (show (wr.drew.alloc (.cells #[.string uk, .string sn] 35)).cell? ⟨wr.drew.heap.size, 1, none⟩ = some (.string (cS (-pk))) by rw [HSN.out]; exact cell_of_row _ _ _ _ _ _ (heap_alloc_new wr.drew _))
      have cY1 := (HB3.out.cell (p := ⟨zb, zo + k * 2, none⟩) hzb).trans z1
      have cY2 := (HB3.out.cell (p := ⟨zb, zo + k * 2 + 1, none⟩) hzb).trans z2
      refine hK.out _ _ (by (try dsimp only); go_keep) (fun hHeld => ?_)
      clear hK K
      try simp only [Act.put, List.setIfInBounds_toArray, List.set_cons_zero, List.set_cons_succ]
      refine wpAnyH_ready (rs := [14]) (by kernel_rfl) (by simp) ?_
      refine AllReadyH.cons (o := { dst := some 30, op := Op.call { callee := Callee.builtin Builtin.append, args := #[Operand.tmp 16, Operand.tmp 29], argTypes := #[32, 32] }, type := 32, pos := "ref.go:147", after := #[{ on := 0, ground := Ground.data }, { on := 13, ground := Ground.data }, { on := 11, ground := Ground.chain }], guard := none }) rfl (fun K hK => ?_) AllReadyH.nil
      clear hHeld
      obtain ⟨v9, W9, hap, hO9, hB9, _⟩ := OB.add HO3.out (uk, -pk) _ HC1.out HC2.out 32 (by simp; omega) hle
      have HO9 := Lib.hid hO9
      have HB4 := Lib.hid (HB3.out.trans (hB9.mono (by have := HS0.out; omega)))
      have cZ1 := (HB4.out.cell (p := ⟨zb, zo + k * 2, none⟩) hzb).trans z1
      have cZ2 := (HB4.out.cell (p := ⟨zb, zo + k * 2 + 1, none⟩) hzb).trans z2
      clear hO9 hB9
      rw [if_pos (by rfl)]
      refine op_addMoney (.tmp 16) (.tmp 29) rfl rfl rfl hap ?_
      refine hK.out _ _ (by (try dsimp only); go_keep) (fun hHeld => ?_)
      clear hK K
      try simp only [Act.put, List.setIfInBounds_toArray, List.set_cons_zero, List.set_cons_succ]
      refine wpAnyH_take (i := 15) (oi := { dst := some 4, op := Op.assign (Operand.tmp 30), type := 32, pos := "ref.go:147", after := #[{ on := 14, ground := Ground.data }, { on := 14, ground := Ground.chain }, { on := 0, ground := Ground.phase }, { on := 1, ground := Ground.phase }, { on := 2, ground := Ground.phase }, { on := 3, ground := Ground.phase }, { on := 4, ground := Ground.phase }, { on := 5, ground := Ground.phase }, { on := 6, ground := Ground.phase }, { on := 7, ground := Ground.phase }, { on := 8, ground := Ground.phase }, { on := 9, ground := Ground.phase }, { on := 10, ground := Ground.phase }, { on := 11, ground := Ground.phase }, { on := 12, ground := Ground.phase }, { on := 13, ground := Ground.phase }, { on := 14, ground := Ground.phase }], guard := none }) (v := ?_) rfl (by kernel_rfl) (by kernel_rfl) (by kernel_rfl) (fun _ _ _ h => h) (Or.inl ⟨by rfl, ?_⟩) (by assumption) ?_
      rotate_left
      focus ((intro w hSw; (try dsimp only at hSw); go_simp); (try with_reducible rfl))
      try simp only [Act.put, List.setIfInBounds_toArray, List.set_cons_zero, List.set_cons_succ]
      refine wpAnyH_done (by kernel_rfl) ?_ _
      clear hHeld
      rw [← HTK.out] at HO9
      go_wp2_with fail
      go_roundw
      case rel => exact ⟨k + 1, _, by omega, by simp, rfl, HO9, HB4⟩
      case measure => simp [intOf]; omega
    · obtain rfl : k = n := by omega
      have hO := HO.out
      rw [List.take_of_length_le (by rw [HLN.out]; omega)] at hO
      obtain ⟨ya, cy, e, hrb, _, _⟩ := OB.rb hO
      rw [HLN.out] at e
      subst e
      have HRB := Lib.hid hrb
      clear HO hO hrb
      go_wp2_with fail
      go_ret2
      exact ⟨ya, cy, rfl, HRB.out, HB.out⟩

end Go.Proofs.YtahnkmkmoalbhaaGreatDoor

/- The reference of layer 5: Find, CheckTable: the walks. -/
namespace Go.Proofs.YtahnkmkmoalbhaaGreatDoor
open Go.RowKit

/-- two values lie in block b -/
def TwoAt (w : World) (b : Nat) (t : TypeId) (x y : Value) : Prop := w.heap[b]? = some (.cells #[x, y] t (0, 0))
theorem TwoAt.cells {w : World} {b : Nat} {t : TypeId} {x y : Value} (h : TwoAt w b t x y) : w.cell? ⟨b, 0, none⟩ = some x ∧ w.cell? ⟨b, 1, none⟩ = some y ∧ w.frozen? ⟨b, 0, none⟩ = false ∧ w.frozen? ⟨b, 1, none⟩ = false := by
  unfold TwoAt at h
  exact ⟨by rw [cell_of_row w b 0 _ _ _ h]; rfl, by rw [cell_of_row w b 1 _ _ _ h]; rfl, frozen_of_row w b 0 _ _ h, frozen_of_row w b 1 _ _ h⟩
theorem TwoAt.made (w : World) (t : TypeId) (x y : Value) : TwoAt (w.alloc (.cells #[x, y] t)) w.heap.size t x y := heap_alloc_new w _
theorem TwoAt.put {W : World} {b : Nat} {t : TypeId} {x y : Value} (h : TwoAt W b t x y) (u v : Value) : TwoAt ((W.setCell ⟨b, 0, none⟩ u).setCell ⟨b, 1, none⟩ v) b t u v := by
  have h1 := heap_setCell_same W b 0 _ _ u h
  have h2 := heap_setCell_same (W.setCell ⟨b, 0, none⟩ u) b 1 _ _ v h1
  unfold TwoAt; rw [h2]; rfl

/-- the first currency with this code -/
def curI (n : Nat) (c : Nat → ByteArray) (x : ByteArray) : Option Nat := idx (fun i => decide (c i = x)) n
def curV (c : Nat → ByteArray) (p : Nat → Int) : Option Nat → Value
  | some i => .tuple #[.agg #[.string (c i), .int .i64 (p i)], .bool true]
  | none => .tuple #[.agg #[.string ⟨#[]⟩, .int .i64 0], .bool false]
theorem curI_at {n k : Nat} {c : Nat → ByteArray} {x : ByteArray} (hk : k < n) (he : c k = x) (h : ∀ i, i < k → c i ≠ x) : curI n c x = some k :=
  idx_some (P := fun i => decide (c i = x)) (decide_eq_true he) (fun i hi => decide_eq_false (h i hi)) hk
theorem curI_none {n : Nat} {c : Nat → ByteArray} {x : ByteArray} (h : ∀ i, i < n → c i ≠ x) : curI n c x = none := idx_none.2 fun i hi => decide_eq_false (h i hi)
set_option maxRecDepth 100000 in
set_option maxHeartbeats 8000000 in
theorem rFind (w : World) (xa : Option Addr) (n cap : Nat) (c : Nat → ByteArray) (p : Nat → Int) (x : ByteArray) (hr : Rt w xa n c p) (hmax : n ≤ 9223372036854775807) :
    Calls Tryz.prog 15 #[.slice xa n cap, .string x] w fun e w' => e = .returned (curV c p (curI n c x)) ∧ Below w.heap.size w w' := by
  have HR := Lib.hid hr
  obtain ⟨S0, hS0⟩ : ∃ s, w.heap.size = s := ⟨_, rfl⟩
  obtain ⟨W0, hW0⟩ : ∃ W, W = w.alloc (.cells #[.string ⟨#[]⟩, .int .i64 0] 26) := ⟨_, rfl⟩
  have HX := Lib.hid (show TwoAt W0 S0 26 (.string ⟨#[]⟩) (.int .i64 0) by rw [hW0, ← hS0]; exact TwoAt.made _ _ _ _)
  have HB := Lib.hid (show Below w.heap.size w W0 by rw [hW0]; exact (Below.refl _ _).alloc (Nat.le_refl _) _)
  clear hr
  go_enter Tryz.func15, Tryz.ntmps15
  go_upto_region 1 with fail
  try rw [hS0]
  rw [← hW0]
  clear hW0
  go_wp2_with fail
  go_loopw [6] (fun iv wr => ∃ k : Nat, k ≤ n ∧ iv = .int .i64 (k : Int) ∧ Hid (∀ i, i < k → c i ≠ x) ∧ wr = W0) (fun iv _ => n - (intOf iv).toNat)
  case atStart => exact ⟨0, Nat.zero_le _, rfl, Lib.hid (fun i hi => absurd hi (by omega)), by first | rfl | trivial⟩
  case round =>
    obtain ⟨k, hk, rfl, HA, rfl⟩ := hrel
    obtain ⟨f0, f1, f2, f3⟩ := HX.out.cells
    by_cases hlt : k < n
    · have hw1 : IntKind.i64.wrap ((k : Int) + 1) = (k : Int) + 1 := IntWalk.i64_in _ (by omega)
      obtain ⟨b, o, rfl, hb, y1, y2⟩ := Rt.at HR.out hlt
      have z1 := (HB.out.cell (p := ⟨b, o + k * 2, none⟩) hb).trans y1
      have z2 := (HB.out.cell (p := ⟨b, o + k * 2 + 1, none⟩) hb).trans y2
      by_cases he : c k = x
      · have HE := Lib.hid (curI_at hlt he HA.out)
        obtain ⟨pk, hpk⟩ : ∃ q, p k = q := ⟨_, rfl⟩
        have HEV := Lib.hid (show curV c p (curI n c x) = .tuple #[.agg #[.string x, .int .i64 pk], .bool true] by rw [HE.out]; show Value.tuple #[.agg #[.string (c k), .int .i64 (p k)], .bool true] = _; rw [he, hpk])
        rw [he] at z1
        rw [hpk] at z2
        have hbs : w.heap.size ≤ S0 := by omega
        have hP := HX.out.put (.string x) (.int .i64 pk)
        have HBN := Lib.hid ((HB.out.setCell (p := ⟨S0, 0, none⟩) hbs (.string x)).setCell (p := ⟨S0, 1, none⟩) hbs (.int .i64 pk))
        obtain ⟨k0, k1, _, _⟩ := hP.cells
        clear he hpk HA HE y1 y2 hP
        go_wp2_with fail
        (try simp only [Exit.inBlock, Exit.then])
        exact bodyPost_ret (v := .tuple #[.agg #[.string x, .int .i64 pk], .bool true]) (by simp [results, Tryz.results15, go_sem, k0, k1]) rfl ⟨by rw [HEV.out], HBN.out⟩
      · have hne : ((c k).toList == x.toList) = false := by rw [beq_toList]; exact decide_eq_false he
        have HA2 := Lib.hid (show ∀ i, i < k + 1 → c i ≠ x from fun i hi => by
          by_cases e : i = k
          · rw [e]; exact he
          · exact HA.out i (by omega))
        obtain ⟨uk, huk⟩ : ∃ x, c k = x := ⟨_, rfl⟩
        rw [huk] at z1 hne
        clear he huk HA y1 y2
        go_wp2_with fail
        go_roundw
        case rel => exact ⟨k + 1, by omega, by simp, HA2, by first | rfl | trivial⟩
        case measure => simp [intOf]; omega
    · obtain rfl : k = n := by omega
      have HEV := Lib.hid (show curV c p (curI k c x) = .tuple #[.agg #[.string ⟨#[]⟩, .int .i64 0], .bool false] by rw [curI_none HA.out]; rfl)
      have hbs : w.heap.size ≤ S0 := by omega
      have hP := HX.out.put (.string ⟨#[]⟩) (.int .i64 0)
      have HBN := Lib.hid ((HB.out.setCell (p := ⟨S0, 0, none⟩) hbs (.string ⟨#[]⟩)).setCell (p := ⟨S0, 1, none⟩) hbs (.int .i64 0))
      obtain ⟨k0, k1, _, _⟩ := hP.cells
      clear HA hP
      go_wp2_with fail
      (try simp only [Exit.inBlock, Exit.then])
      exact bodyPost_ret (v := .tuple #[.agg #[.string ⟨#[]⟩, .int .i64 0], .bool false]) (by simp [results, Tryz.results15, go_sem, k0, k1]) rfl ⟨by rw [HEV.out], HBN.out⟩

/-- currencies to be read: n of them, with codes that are not long -/
structure FitT (n : Nat) (c : Nat → ByteArray) : Prop where
  max : n ≤ 100000
  code : ∀ i, i < n → (c i).size ≤ 1000
set_option maxRecDepth 100000 in
set_option maxHeartbeats 8000000 in
theorem rTab_many (w : World) (xa : Option Addr) (n cap : Nat) (h : 16 < n) :
    Calls Tryz.prog 17 #[.slice xa n cap] w fun e w' => e = .returned (.int .i64 4) ∧ ∃ q, w' = w.drewN q := by
  have hi : (16 : Int) < n := by omega
  clear h
  go_enter Tryz.func17, Tryz.ntmps17
  go_wp2_with fail
  go_ret
  exact ⟨rfl, 0, rfl⟩
set_option maxRecDepth 100000 in
set_option maxHeartbeats 16000000 in
theorem rTab_few (w : World) (xa : Option Addr) (n cap : Nat) (c : Nat → ByteArray) (p : Nat → Int) (hr : Rt w xa n c p) (hf : FitT n c) (hn : n ≤ 16) :
    Calls Tryz.prog 17 #[.slice xa n cap] w fun e w' => e = .returned (.int .i64 (firstE (tabAt c p) n)) ∧ ∃ q, w' = w.drewN q := by
  have hi : ¬ (16 : Int) < n := by omega
  have HR := Lib.hid hr
  have HF := Lib.hid hf
  clear hr hf
  go_enter Tryz.func17, Tryz.ntmps17
  go_wp2_with fail
  go_loopw [3] (fun iv wr => ∃ k : Nat, k ≤ n ∧ iv = .int .i64 (k : Int) ∧ Hid (∀ i, i < k → tabAt c p i = 0) ∧ ∃ q, wr = w.drewN q) (fun iv _ => n - (intOf iv).toNat)
  case atStart => exact ⟨0, Nat.zero_le _, rfl, Lib.hid (fun i hi => absurd hi (by omega)), 0, rfl⟩
  case round =>
    obtain ⟨k, hk, rfl, HA, q, rfl⟩ := hrel
    have hw1 : IntKind.i64.wrap ((k : Int) + 1) = (k : Int) + 1 := IntWalk.i64_in _ (by omega)
    by_cases hlt : k < n
    · obtain ⟨b, o, rfl, hb, z1, z2⟩ := Rt.at HR.out hlt
      have hsu := HF.out.code k hlt
      have HCO := Lib.hid (fun W => rCode (c k) W (by omega))
      cases h1 : codeS (c k) with
      | false =>
        have HE := Lib.hid (show firstE (tabAt c p) n = 23 by
          have hz : tabAt c p k = 23 := by unfold tabAt; rw [if_pos h1]
          rw [firstE_at (by rw [hz]; decide) HA.out hlt, hz])
        rw [h1] at HCO
        obtain ⟨uk, huk⟩ : ∃ x, c k = x := ⟨_, rfl⟩
        rw [huk] at z1 HCO
        clear h1 huk hsu HA
        go_wp2_with fail
        refine (HCO.out _).mono ?_
        rintro _ _ ⟨rfl, rfl⟩
        go_wp2_with fail
        go_ret
        exact ⟨by rw [HE.out]; rfl, q, rfl⟩
      | true =>
        rw [h1] at HCO
        by_cases h2 : p k < 0 ∨ 12 < p k
        · have HE := Lib.hid (show firstE (tabAt c p) n = 2 by
            have hz : tabAt c p k = 2 := by unfold tabAt; rw [if_neg (by rw [h1]; decide), if_pos h2]
            rw [firstE_at (by rw [hz]; decide) HA.out hlt, hz])
          obtain ⟨uk, huk⟩ : ∃ x, c k = x := ⟨_, rfl⟩
          obtain ⟨pk, hpk⟩ : ∃ x, p k = x := ⟨_, rfl⟩
          rw [huk] at z1 HCO
          rw [hpk] at z2 h2
          clear h1 huk hpk hsu HA
          by_cases h3 : pk < 0
          · have h4 : decide (pk < 0) = true := decide_eq_true h3
            clear h2
            go_wp2_with fail
            refine (HCO.out _).mono ?_
            rintro _ _ ⟨rfl, rfl⟩
            go_wp2_with fail
            go_ret
            exact ⟨by rw [HE.out]; rfl, q, rfl⟩
          · have h4 : 12 < pk := by omega
            clear h2
            go_wp2_with fail
            refine (HCO.out _).mono ?_
            rintro _ _ ⟨rfl, rfl⟩
            go_wp2_with fail
            go_ret
            exact ⟨by rw [HE.out]; rfl, q, rfl⟩
        · have h3 : ¬ p k < 0 := fun e => h2 (Or.inl e)
          have h4 : ¬ 12 < p k := fun e => h2 (Or.inr e)
          have HE5 := Lib.hid (show (List.range k).any (fun l => decide (c l = c k)) = true → firstE (tabAt c p) n = 5 from fun hh => by
            have hz : tabAt c p k = 5 := by unfold tabAt; rw [if_neg (by rw [h1]; decide), if_neg h2, if_pos hh]
            rw [firstE_at (by rw [hz]; decide) HA.out hlt, hz])
          have HE0 := Lib.hid (show (∀ l, l < k → c l ≠ c k) → ∀ i, i < k + 1 → tabAt c p i = 0 from fun hh i hi => by
            by_cases e : i = k
            · subst e
              unfold tabAt
              rw [if_neg (by rw [h1]; decide), if_neg h2, if_neg]
              intro g
              obtain ⟨l, hl, e⟩ := List.any_eq_true.1 g
              exact hh l (List.mem_range.1 hl) (of_decide_eq_true e)
            · exact HA.out i (by omega))
          have HZ1 := Lib.hid z1
          obtain ⟨uk, huk⟩ : ∃ x, c k = x := ⟨_, rfl⟩
          obtain ⟨pk, hpk⟩ : ∃ x, p k = x := ⟨_, rfl⟩
          rw [huk] at z1 HCO
          rw [hpk] at z2 h3 h4
          have HUK := Lib.hid huk
          clear h1 h2 huk hpk hsu HA
          go_wp2_with fail
          refine (HCO.out _).mono ?_
          rintro _ _ ⟨rfl, rfl⟩
          go_wp2_with fail
          go_loopw [4] (fun jv wx => ∃ j : Nat, j ≤ k ∧ jv = .int .i64 (j : Int) ∧ Hid (∀ l, l < j → c l ≠ c k) ∧ ∃ r, wx = w.drewN r) (fun jv _ => k - (intOf jv).toNat)
          case atStart => exact ⟨0, Nat.zero_le _, rfl, Lib.hid (fun i hi => absurd hi (by omega)), q, rfl⟩
          case round =>
            obtain ⟨j, hj, rfl, HJ, r, rfl⟩ := hrel
            have hw2 : IntKind.i64.wrap ((j : Int) + 1) = (j : Int) + 1 := IntWalk.i64_in _ (by omega)
            by_cases hjk : j < k
            · obtain ⟨b', o', e', _, y1, _⟩ := Rt.at HR.out (show j < n by omega)
              obtain ⟨rfl, rfl⟩ : b = b' ∧ o = o' := by injection e' with e'; injection e' with e1 e2; exact ⟨e1, e2⟩
              have hjn : (j : Int) < (n : Int) := by omega
              have hkn : (k : Int) < (n : Int) := by omega
              by_cases he : c j = c k
              · have HE := Lib.hid (HE5.out (List.any_eq_true.2 ⟨j, List.mem_range.2 hjk, decide_eq_true he⟩))
                rw [he, HUK.out] at y1
                clear he HJ
                go_wp2_with fail
                go_quiet (fail)
                rename_i nq
                go_wp2_with fail
                go_ret
                exact ⟨by rw [HE.out]; rfl, r + nq, World.drewN_drewN _ _ _⟩
              · have hne : ((c j).toList == uk.toList) = false := by rw [← HUK.out, beq_toList]; exact decide_eq_false he
                have HJ2 := Lib.hid (show ∀ l, l < j + 1 → c l ≠ c k from fun l hl => by
                  by_cases e : l = j
                  · rw [e]; exact he
                  · exact HJ.out l (by omega))
                obtain ⟨uj, huj⟩ : ∃ x, c j = x := ⟨_, rfl⟩
                rw [huj] at y1 hne
                clear he huj HJ
                go_wp2_with fail
                go_quiet (fail)
                go_wp2_with fail
                go_roundw
                case rel => exact ⟨j + 1, by omega, by simp, HJ2, _, rfl⟩
                case measure => simp [intOf]; omega
            · obtain rfl : j = k := by omega
              have HN := Lib.hid (HE0.out HJ.out)
              clear HJ
              go_wp2_with fail
              go_roundw
              case rel => exact ⟨j + 1, by omega, by simp, HN, r, rfl⟩
              case measure => simp [intOf]; omega
    · obtain rfl : k = n := by omega
      have HE := Lib.hid (firstE_zero.2 HA.out)
      go_wp2_with fail
      go_ret
      exact ⟨by rw [HE.out]; rfl, q, rfl⟩
theorem rTab (w : World) (xa : Option Addr) (n cap : Nat) (c : Nat → ByteArray) (p : Nat → Int) (hr : Rt w xa n c p) (hf : FitT n c) :
    Calls Tryz.prog 17 #[.slice xa n cap] w fun e w' => e = .returned (.int .i64 (tabE n c p)) ∧ ∃ q, w' = w.drewN q := by
  unfold tabE
  by_cases h : 16 < n
  · rw [if_pos h]; exact rTab_many w xa n cap h
  · rw [if_neg h]; exact rTab_few w xa n cap c p hr hf (by omega)

end Go.Proofs.YtahnkmkmoalbhaaGreatDoor

/- The reference of layer 5: Great, GreatTable, and the law's long: the walks. -/
namespace Go.Proofs.YtahnkmkmoalbhaaGreatDoor
open Go.RowKit

/-- an amount, or a code, that is longer than the laws examine -/
def longA (s : ByteArray) : Bool := decide (13 < s.size)
def wideB (u v : ByteArray) : Bool := longA v || decide (8 < u.size)
set_option maxRecDepth 100000 in
set_option maxHeartbeats 8000000 in
theorem rLongA (s : ByteArray) (w : World) : Calls Tryz.prog 52 #[.string s] w fun e w' => e = .returned (.bool (longA s)) ∧ w = w' := by
  by_cases h : (13 : Int) < s.size
  · have HD := Lib.hid (show longA s = true from decide_eq_true (by omega))
    go_enter Tryz.func52, Tryz.ntmps52
    go_wp2_with fail
    go_ret
    exact ⟨by rw [HD.out]; simp, rfl⟩
  · have HD := Lib.hid (show longA s = false from decide_eq_false (by omega))
    go_enter Tryz.func52, Tryz.ntmps52
    go_wp2_with fail
    go_ret
    exact ⟨by rw [HD.out]; simp, rfl⟩

set_option maxRecDepth 100000 in
set_option maxHeartbeats 8000000 in
theorem rLongM (c z : ByteArray) (w : World) : Calls Tryz.prog 19 #[.agg #[.string c, .string z]] w fun e w' => e = .returned (.bool (wideB c z)) ∧ Below w.heap.size w w' := by
  have HL := Lib.hid (fun W => rLongA z W)
  obtain ⟨W0, hW0⟩ : ∃ W, W = w.alloc (.cells #[.string c, .string z] 35) := ⟨_, rfl⟩
  have HX := Lib.hid (show PairAt W0 w.heap.size 35 c z by rw [hW0]; exact PairAt.made _ _ _ _)
  have HB := Lib.hid (show Below w.heap.size w W0 by rw [hW0]; exact (Below.refl _ _).alloc (Nat.le_refl _) _)
  obtain ⟨q1, q2, _, _⟩ := HX.out.cells
  cases h1 : longA z with
  | true =>
    have HD := Lib.hid (show wideB c z = true by unfold wideB; rw [h1]; rfl)
    rw [h1] at HL
    clear h1
    go_enter Tryz.func19, Tryz.ntmps19
    go_upto_region 1 with fail
    rw [← hW0]
    clear hW0
    go_wp2_with fail
    refine (HL.out _).mono ?_
    rintro _ _ ⟨rfl, rfl⟩
    go_wp2_with fail
    go_ret
    exact ⟨by rw [HD.out]; rfl, HB.out⟩
  | false =>
    rw [h1] at HL
    by_cases h2 : (8 : Int) < c.size
    · have HD := Lib.hid (show wideB c z = true by unfold wideB; rw [h1, decide_eq_true (by omega)]; rfl)
      clear h1
      go_enter Tryz.func19, Tryz.ntmps19
      go_upto_region 1 with fail
      rw [← hW0]
      clear hW0
      go_wp2_with fail
      refine (HL.out _).mono ?_
      rintro _ _ ⟨rfl, rfl⟩
      go_wp2_with fail
      go_ret
      exact ⟨by rw [HD.out]; simp, HB.out⟩
    · have HD := Lib.hid (show wideB c z = false by unfold wideB; rw [h1, decide_eq_false (by omega)]; rfl)
      clear h1
      go_enter Tryz.func19, Tryz.ntmps19
      go_upto_region 1 with fail
      rw [← hW0]
      clear hW0
      go_wp2_with fail
      refine (HL.out _).mono ?_
      rintro _ _ ⟨rfl, rfl⟩
      go_wp2_with fail
      go_ret
      exact ⟨by rw [HD.out]; simp; omega, HB.out⟩

/-- more, or longer, amounts than the laws examine -/
def greatB (n : Nat) (u v : Nat → ByteArray) : Bool := (List.range (min n 24)).any (fun i => wideB (u i) (v i)) || decide (6 < n ∧ n < 15 ∨ 18 < n)
theorem greatB_false {n : Nat} {u v : Nat → ByteArray} (h : greatB n u v = false) : (n ≤ 6 ∨ (15 ≤ n ∧ n ≤ 18)) ∧ ∀ i, i < n → (v i).size ≤ 13 ∧ (u i).size ≤ 8 := by
  unfold greatB at h
  rw [Bool.or_eq_false_iff] at h
  have h2 := of_decide_eq_false h.2
  refine ⟨by omega, fun i hi => ?_⟩
  have h1 := List.any_eq_false.1 h.1 i (List.mem_range.2 (by omega))
  unfold wideB longA at h1
  simp at h1
  omega
theorem any_next {P : Nat → Bool} {k : Nat} (h : (List.range k).any P = false) (hp : P k = false) : (List.range (k + 1)).any P = false := by
  rw [List.range_succ, List.any_append, h]; simp [hp]
theorem any_true {P : Nat → Bool} {k n : Nat} (hk : k < n) (hp : P k = true) : (List.range n).any P = true := List.any_eq_true.2 ⟨k, List.mem_range.2 hk, hp⟩
set_option maxRecDepth 100000 in
set_option maxHeartbeats 16000000 in
theorem rGreatB (w : World) (xa : Option Addr) (n cap : Nat) (u v : Nat → ByteArray) (hr : Rf w xa n u v) (hmax : n ≤ 9223372036854775807) :
    Calls Tryz.prog 51 #[.slice xa n cap] w fun e w' => e = .returned (.bool (greatB n u v)) ∧ w = w' := by
  have HR := Lib.hid hr
  clear hr
  go_enter Tryz.func51, Tryz.ntmps51
  go_wp2_with fail
  go_loopw [3] (fun iv wr => ∃ k : Nat, k ≤ n ∧ k ≤ 24 ∧ iv = .int .i64 (k : Int) ∧ Hid ((List.range k).any (fun i => wideB (u i) (v i)) = false) ∧ wr = w) (fun iv _ => n - (intOf iv).toNat)
  case atStart => exact ⟨0, Nat.zero_le _, by omega, rfl, Lib.hid rfl, by first | rfl | trivial⟩
  case round =>
    obtain ⟨k, hk, hk24, rfl, HA, rfl⟩ := hrel
    by_cases hlt : k < n
    · by_cases h24 : k < 24
      · have hw1 : IntKind.i64.wrap ((k : Int) + 1) = (k : Int) + 1 := IntWalk.i64_in _ (by omega)
        have hk24' : (k : Int) < 24 := by omega
        obtain ⟨b, o, rfl, hb, z1, z2⟩ := Rf.at HR.out hlt
        have HL := Lib.hid (fun W => rLongA (v k) W)
        have HT := Lib.hid (show wideB (u k) (v k) = true → greatB n u v = true from fun hh => by
          unfold greatB; rw [any_true (k := k) (by omega) hh]; rfl)
        have HF := Lib.hid (show wideB (u k) (v k) = false → (List.range (k + 1)).any (fun i => wideB (u i) (v i)) = false from fun hh => any_next HA.out hh)
        obtain ⟨uk, huk⟩ : ∃ x, u k = x := ⟨_, rfl⟩
        obtain ⟨vk, hvk⟩ : ∃ x, v k = x := ⟨_, rfl⟩
        rw [huk] at z1
        rw [hvk] at z2 HL
        rw [huk, hvk] at HT HF
        clear huk hvk HA
        cases h1 : longA vk with
        | true =>
          have HD := Lib.hid (HT.out (by unfold wideB; rw [h1]; rfl))
          rw [h1] at HL
          clear h1 HT HF
          go_wp2_with fail
          refine (HL.out _).mono ?_
          rintro _ _ ⟨rfl, rfl⟩
          go_wp2_with fail
          go_ret
          exact ⟨by rw [HD.out]; rfl, rfl⟩
        | false =>
          rw [h1] at HL
          by_cases h2 : (8 : Int) < uk.size
          · have HD := Lib.hid (HT.out (by unfold wideB; rw [h1, decide_eq_true (by omega)]; rfl))
            clear h1 HT HF
            go_wp2_with fail
            refine (HL.out _).mono ?_
            rintro _ _ ⟨rfl, rfl⟩
            go_wp2_with fail
            go_ret
            exact ⟨by rw [HD.out]; rfl, rfl⟩
          · have HD := Lib.hid (HF.out (by unfold wideB; rw [h1, decide_eq_false (by omega)]; rfl))
            clear h1 HT HF
            go_wp2_with fail
            refine (HL.out _).mono ?_
            rintro _ _ ⟨rfl, rfl⟩
            go_wp2_with fail
            go_roundw
            case rel => exact ⟨k + 1, by omega, by omega, by simp, HD, by first | rfl | trivial⟩
            case measure => simp [intOf]; omega
      · have hD : greatB n u v = true := by unfold greatB; rw [decide_eq_true (show 6 < n ∧ n < 15 ∨ 18 < n by omega)]; simp
        have HD := Lib.hid hD
        have i1 : ¬ (k : Int) < 24 := by omega
        have i2 : (6 : Int) < (n : Int) := by omega
        have i3 : ¬ (n : Int) < 15 := by omega
        have i4 : (18 : Int) < (n : Int) := by omega
        clear HA hD
        go_wp2_with fail
        go_ret
        exact ⟨by rw [HD.out]; simp, rfl⟩
    · obtain rfl : k = n := by omega
      have hA : ∀ q, decide (6 < k ∧ k < 15 ∨ 18 < k) = q → greatB k u v = q := fun q hq => by
        unfold greatB
        rw [Nat.min_eq_left hk24, HA.out, hq]; rfl
      by_cases i4 : (18 : Int) < (k : Int)
      · have HD := Lib.hid (hA true (decide_eq_true (by omega)))
        have i2 : (6 : Int) < (k : Int) := by omega
        have i3 : ¬ (k : Int) < 15 := by omega
        clear HA hA
        go_wp2_with fail
        go_ret
        exact ⟨by rw [HD.out]; simp, rfl⟩
      · by_cases i2 : (6 : Int) < (k : Int)
        · by_cases i3 : (k : Int) < 15
          · have HD := Lib.hid (hA true (decide_eq_true (by omega)))
            clear HA hA
            go_wp2_with fail
            go_ret
            exact ⟨by rw [HD.out]; simp, rfl⟩
          · have HD := Lib.hid (hA false (decide_eq_false (by omega)))
            clear HA hA
            go_wp2_with fail
            go_ret
            exact ⟨by rw [HD.out]; simp, rfl⟩
        · have HD := Lib.hid (hA false (decide_eq_false (by omega)))
          clear HA hA
          go_wp2_with fail
          go_ret
          exact ⟨by rw [HD.out]; simp, rfl⟩

/-- more currencies, or longer codes, than the laws examine -/
def greatTb (n : Nat) (c : Nat → ByteArray) : Bool := (List.range (min n 24)).any (fun i => decide (8 < (c i).size)) || decide (18 < n)
theorem greatTb_false {n : Nat} {c : Nat → ByteArray} (h : greatTb n c = false) : n ≤ 18 ∧ ∀ i, i < n → (c i).size ≤ 8 := by
  unfold greatTb at h
  rw [Bool.or_eq_false_iff] at h
  have h2 := of_decide_eq_false h.2
  refine ⟨by omega, fun i hi => ?_⟩
  have h1 := List.any_eq_false.1 h.1 i (List.mem_range.2 (by omega))
  simp at h1
  omega
set_option maxRecDepth 100000 in
set_option maxHeartbeats 16000000 in
theorem rGreatTab (w : World) (xa : Option Addr) (n cap : Nat) (c : Nat → ByteArray) (p : Nat → Int) (hr : Rt w xa n c p) (hmax : n ≤ 9223372036854775807) :
    Calls Tryz.prog 12 #[.slice xa n cap] w fun e w' => e = .returned (.bool (greatTb n c)) ∧ w = w' := by
  have HR := Lib.hid hr
  clear hr
  go_enter Tryz.func12, Tryz.ntmps12
  go_wp2_with fail
  go_loopw [3] (fun iv wr => ∃ k : Nat, k ≤ n ∧ k ≤ 24 ∧ iv = .int .i64 (k : Int) ∧ Hid ((List.range k).any (fun i => decide (8 < (c i).size)) = false) ∧ wr = w) (fun iv _ => n - (intOf iv).toNat)
  case atStart => exact ⟨0, Nat.zero_le _, by omega, rfl, Lib.hid rfl, by first | rfl | trivial⟩
  case round =>
    obtain ⟨k, hk, hk24, rfl, HA, rfl⟩ := hrel
    by_cases hlt : k < n
    · by_cases h24 : k < 24
      · have hw1 : IntKind.i64.wrap ((k : Int) + 1) = (k : Int) + 1 := IntWalk.i64_in _ (by omega)
        have hk24' : (k : Int) < 24 := by omega
        obtain ⟨b, o, rfl, hb, z1, z2⟩ := Rt.at HR.out hlt
        by_cases h2 : (8 : Int) < (c k).size
        · have HD := Lib.hid (show greatTb n c = true by unfold greatTb; rw [any_true (k := k) (by omega) (decide_eq_true (by omega))]; rfl)
          obtain ⟨uk, huk⟩ : ∃ x, c k = x := ⟨_, rfl⟩
          rw [huk] at z1 h2
          clear huk HA
          go_wp2_with fail
          go_ret
          exact ⟨by rw [HD.out]; rfl, rfl⟩
        · have HD := Lib.hid (any_next (P := fun i => decide (8 < (c i).size)) HA.out (decide_eq_false (by omega)))
          obtain ⟨uk, huk⟩ : ∃ x, c k = x := ⟨_, rfl⟩
          rw [huk] at z1 h2
          clear huk HA
          go_wp2_with fail
          go_roundw
          case rel => exact ⟨k + 1, by omega, by omega, by simp, HD, by first | rfl | trivial⟩
          case measure => simp [intOf]; omega
      · have hD : greatTb n c = true := by unfold greatTb; rw [decide_eq_true (show 18 < n by omega)]; simp
        have HD := Lib.hid hD
        have i1 : ¬ (k : Int) < 24 := by omega
        have i4 : (18 : Int) < (n : Int) := by omega
        clear HA hD
        go_wp2_with fail
        go_ret
        exact ⟨by rw [HD.out]; simp, rfl⟩
    · obtain rfl : k = n := by omega
      have hA : ∀ q, decide (18 < k) = q → greatTb k c = q := fun q hq => by
        unfold greatTb
        rw [Nat.min_eq_left hk24, HA.out, hq]; rfl
      by_cases i4 : (18 : Int) < (k : Int)
      · have HD := Lib.hid (hA true (decide_eq_true (by omega)))
        clear HA hA
        go_wp2_with fail
        go_ret
        exact ⟨by rw [HD.out]; simp, rfl⟩
      · have HD := Lib.hid (hA false (decide_eq_false (by omega)))
        clear HA hA
        go_wp2_with fail
        go_ret
        exact ⟨by rw [HD.out]; simp, rfl⟩

end Go.Proofs.YtahnkmkmoalbhaaGreatDoor

/- Layer 5: amounts compared with ==; slices.Equal of amounts: the walk. -/
namespace Go.Proofs.YtahnkmkmoalbhaaGreatDoor
open Go.RowKit

theorem money_guard (op : BinOp) (x y : Operand) (a b c d : ByteArray) (W : World) : (eqGuard op 35 x y (.agg #[.string a, .string b]) (.agg #[.string c, .string d])).run Tryz.prog W = .ok () W :=
  run_eqGuard_agg W op _ x y _ _ (by kernel_rfl)
theorem money_equal (a b c d : ByteArray) (W : World) : (Op.equalIn 10000 35 (.agg #[.string a, .string b]) (.agg #[.string c, .string d])).run Tryz.prog W = .ok (a.toList == c.toList && b.toList == d.toList) W := by
  rw [run_equalIn_agg W 9999 35 _ _ (by kernel_rfl) (by kernel_rfl)]
  have hf : (Tryz.prog.fieldsOf 35).toList = [⟨"Currency", 9, 0, false, "", "", 0⟩, ⟨"Amount", 33, 1, false, "", "", 16⟩] := by kernel_rfl
  rw [hf]
  simp [Op.eqFields, go_sem]
  by_cases h1 : a.toList = c.toList
  · by_cases h2 : b.toList = d.toList
    · simp [h1, h2]
    · rw [if_pos h1, if_neg h2]; simp [h2]
  · rw [if_neg h1]; simp [h1]
theorem money_neq (a b c d : ByteArray) (W : World) : (binOp .neq 35 (.agg #[.string a, .string b]) (.agg #[.string c, .string d])).run Tryz.prog W = .ok (.bool (!(a.toList == c.toList && b.toList == d.toList))) W := by
  rw [run_neq_struct, money_equal]; rfl
theorem money_eql (a b c d : ByteArray) (W : World) : (binOp .eql 35 (.agg #[.string a, .string b]) (.agg #[.string c, .string d])).run Tryz.prog W = .ok (.bool (a.toList == c.toList && b.toList == d.toList)) W := by
  rw [run_eql_struct, money_equal]; rfl
theorem money_other {a b c d : ByteArray} (h : ¬ (a = c ∧ b = d)) : (a.toList == c.toList && b.toList == d.toList) = false := by
  rw [beq_toList, beq_toList, Bool.and_eq_false_iff]
  by_cases h1 : a = c
  · exact .inr (decide_eq_false (fun h2 => h ⟨h1, h2⟩))
  · exact .inl (decide_eq_false h1)
theorem money_nsame (a b : ByteArray) (W : World) : (binOp .neq 35 (.agg #[.string a, .string b]) (.agg #[.string a, .string b])).run Tryz.prog W = .ok (.bool false) W := by
  rw [money_neq]; simp
theorem money_ndiffer {a b c d : ByteArray} (h : ¬ (a = c ∧ b = d)) (W : World) : (binOp .neq 35 (.agg #[.string a, .string b]) (.agg #[.string c, .string d])).run Tryz.prog W = .ok (.bool true) W := by
  rw [money_neq, money_other h]; rfl

/-- two rows are the same -/
def sameM (n : Nat) (u v s t : Nat → ByteArray) : Bool := decide (∀ i, i < n → u i = s i ∧ v i = t i)
set_option maxRecDepth 100000 in
set_option maxHeartbeats 8000000 in
theorem eqMoney (w : World) (xa ya : Option Addr) (n cap cap' : Nat) (u v s t : Nat → ByteArray) (hx : Rf w xa n u v) (hy : Rf w ya n s t) (hlim : n ≤ 100000) :
    Calls Tryz.prog 28 #[.slice xa n cap, .slice ya n cap'] w fun e w' => e = .returned (.bool (sameM n u v s t)) ∧ ∃ q, w' = w.drewN q := by
  have HX := Lib.hid hx
  have HY := Lib.hid hy
  clear hx hy
  go_enter Tryz.func28, Tryz.ntmps28
  go_wp2_with fail
  go_loopw [13] (fun iv wr => ∃ k : Nat, k ≤ n ∧ iv = .int .i64 (k : Int) ∧ Hid (∀ i, i < k → u i = s i ∧ v i = t i) ∧ ∃ q, wr = w.drewN q) (fun iv _ => n - (intOf iv).toNat)
  case atStart => exact ⟨0, Nat.zero_le _, rfl, Lib.hid (fun i hi => absurd hi (by omega)), 0, rfl⟩
  case round =>
    obtain ⟨k, hk, rfl, HL, q, rfl⟩ := hrel
    by_cases hlt : k < n
    · obtain ⟨b, o, rfl, hb, hck, hck1⟩ := Rf.at HX.out hlt
      obtain ⟨b2, o2, rfl, hb2, hck2, hck3⟩ := Rf.at HY.out hlt
      by_cases he : u k = s k ∧ v k = t k
      · have HN := Lib.hid (show ∀ i, i < k + 1 → u i = s i ∧ v i = t i from fun i hi => by
          by_cases e : i = k
          · rw [e]; exact he
          · exact HL.out i (by omega))
        rw [← he.1] at hck2
        rw [← he.2] at hck3
        obtain ⟨x, hxx⟩ : ∃ x, u k = x := ⟨_, rfl⟩
        obtain ⟨y, hyy⟩ : ∃ y, v k = y := ⟨_, rfl⟩
        rw [hxx] at hck hck2
        rw [hyy] at hck1 hck3
        have hfg := fun X Y W => money_guard .neq X Y x y x y W
        have hfs := money_nsame x y
        clear hxx hyy he HL
        go_wp2_with fail
        go_quiet (fail)
        go_wp2_with fail
        go_roundw
        case rel => exact ⟨k + 1, by omega, by simp, HN, _, rfl⟩
        case measure => simp [intOf]; omega
      · have HD := Lib.hid (show sameM n u v s t = false from decide_eq_false fun h => he (h k hlt))
        obtain ⟨x, hxx⟩ : ∃ x, u k = x := ⟨_, rfl⟩
        obtain ⟨y, hyy⟩ : ∃ y, v k = y := ⟨_, rfl⟩
        obtain ⟨x2, hxx2⟩ : ∃ x, s k = x := ⟨_, rfl⟩
        obtain ⟨y2, hyy2⟩ : ∃ y, t k = y := ⟨_, rfl⟩
        rw [hxx] at hck he
        rw [hyy] at hck1 he
        rw [hxx2] at hck2 he
        rw [hyy2] at hck3 he
        have hfg := fun X Y W => money_guard .neq X Y x y x2 y2 W
        have hfs := money_ndiffer he
        clear hxx hyy hxx2 hyy2 he HL
        go_wp2_with fail
        go_quiet (fail)
        rename_i nq
        go_wp2_with fail
        go_ret
        exact ⟨by rw [HD.out]; rfl, q + nq, World.drewN_drewN _ _ _⟩
    · obtain rfl : k = n := by omega
      have HD := Lib.hid (show sameM k u v s t = true from decide_eq_true HL.out)
      go_wp2_with fail
      go_ret
      exact ⟨by rw [HD.out]; rfl, q, rfl⟩

end Go.Proofs.YtahnkmkmoalbhaaGreatDoor

/- slices.IndexFunc and ContainsFunc with the predicates of layer 5; the laws' great: the walks. -/
namespace Go.Proofs.YtahnkmkmoalbhaaGreatDoor
open Go.RowKit

set_option maxRecDepth 100000 in
set_option maxHeartbeats 1000000 in
/-- slices.IndexFunc(l, Great) -/
theorem idxBag (w : World) (xa : Option Addr) (n cap : Nat) (xs : Nat → Option Addr) (ns cs : Nat → Nat) (hr : Rc w xa n fun i => .slice (xs i) (ns i) (cs i)) (hlim : n ≤ 100000) (P : Nat → Bool) (hp : ∀ i, i < n → ∀ W, Below w.heap.size w W → Calls Tryz.prog 51 #[.slice (xs i) (ns i) (cs i)] W fun e W' => e = .returned (.bool (P i)) ∧ Below W.heap.size W W') :
    Calls Tryz.prog 79 #[.slice xa n cap, .func (.func 51) #[] #[]] w fun e w' => (∃ r : Int, e = .returned (.int .i64 r) ∧ decide (0 ≤ r) = (List.range n).any P) ∧ Below w.heap.size w w' := by
  go_enter Tryz.func79, Tryz.ntmps79
  go_wp2_with fail
  go_loopw [8] (fun iv wr => ∃ k : Nat, k ≤ n ∧ iv = .int .i64 (k : Int) ∧ (List.range k).any P = false ∧ Below w.heap.size w wr) (fun iv _ => n - (intOf iv).toNat)
  case atStart => exact ⟨0, Nat.zero_le _, rfl, rfl, Below.refl _ _⟩
  case round =>
    obtain ⟨k, hk, rfl, hl, hB⟩ := hrel
    have HL := Lib.hid hl
    clear hl
    by_cases hlt : k < n
    · have hr1 := hr.belowAt hB (Nat.le_refl _)
      obtain ⟨b, o, rfl, hb, hcc⟩ := hr1.sl (by omega)
      have hck := hcc k hlt
      try dsimp only at hck
      have HP := Lib.hid (hp k hlt wr hB)
      obtain ⟨sk, hsk⟩ : ∃ sk, xs k = sk := ⟨_, rfl⟩
      obtain ⟨tk, htk⟩ : ∃ tk, ns k = tk := ⟨_, rfl⟩
      obtain ⟨rk, hrk⟩ : ∃ tk, cs k = tk := ⟨_, rfl⟩
      rw [hsk, htk, hrk] at hck HP
      clear hsk htk hrk hcc
      have HB := Lib.hid hB
      clear hr hr1 hp hB
      go_wp2_with fail
      refine HP.out.mono ?_
      rintro e w' ⟨rfl, hB1⟩
      have hB2 := HB.out.trans (hB1.mono HB.out.size)
      have hsu : (List.range (k + 1)).any P = ((List.range k).any P || P k) := by rw [List.range_succ, List.any_append]; simp
      cases hpk : P k with
      | true =>
        have HT := Lib.hid (show decide ((0 : Int) ≤ (k : Int)) = (List.range n).any P by
          rw [decide_eq_true (by omega)]
          exact (List.any_eq_true.2 ⟨k, List.mem_range.2 hlt, hpk⟩).symm)
        clear hsu hpk hB1
        go_wp2_with fail
        go_ret
        exact ⟨⟨_, rfl, HT.out⟩, hB2⟩
      | false =>
        have HT := Lib.hid (show (List.range (k + 1)).any P = false by rw [hsu, HL.out, hpk]; rfl)
        clear hsu hpk hB1
        go_wp2_with fail
        go_roundw
        case rel => exact ⟨k + 1, by omega, by simp, HT.out, hB2⟩
        case measure => simp [intOf]; omega
    · obtain rfl : k = n := by omega
      clear hr hp
      go_wp2_with fail
      go_ret
      exact ⟨⟨-1, rfl, by rw [HL.out]; rfl⟩, hB⟩

set_option maxRecDepth 100000 in
set_option maxHeartbeats 1000000 in
theorem hasBag (w : World) (xa : Option Addr) (n cap : Nat) (xs : Nat → Option Addr) (ns cs : Nat → Nat) (hr : Rc w xa n fun i => .slice (xs i) (ns i) (cs i)) (hlim : n ≤ 100000) (P : Nat → Bool) (hp : ∀ i, i < n → ∀ W, Below w.heap.size w W → Calls Tryz.prog 51 #[.slice (xs i) (ns i) (cs i)] W fun e W' => e = .returned (.bool (P i)) ∧ Below W.heap.size W W') :
    Calls Tryz.prog 50 #[.slice xa n cap, .func (.func 51) #[] #[]] w fun e w' => e = .returned (.bool ((List.range n).any P)) ∧ Below w.heap.size w w' := by
  have HI := Lib.hid (idxBag w xa n cap xs ns cs hr hlim P hp)
  clear hp hr
  go_enter Tryz.func50, Tryz.ntmps50
  go_wp2_with fail
  refine HI.out.mono ?_
  rintro _ w1 ⟨⟨r, rfl, hd⟩, hB⟩
  have HD := Lib.hid hd
  clear hd
  go_wp2_with fail
  go_ret
  exact ⟨by rw [← HD.out]; simp, hB⟩

set_option maxRecDepth 100000 in
set_option maxHeartbeats 1000000 in
/-- slices.IndexFunc(l, an amount that the law MoneyPuts leaves out) -/
theorem idxWrong5 (w : World) (xa : Option Addr) (n cap : Nat) (u v : Nat → ByteArray) (hr : Rf w xa n u v) (hlim : n ≤ 100000) (P : Nat → Bool) (hp : ∀ i, i < n → ∀ W, Below w.heap.size w W → Calls Tryz.prog 38 #[.agg #[.string (u i), .string (v i)]] W fun e W' => e = .returned (.bool (P i)) ∧ Below W.heap.size W W') :
    Calls Tryz.prog 72 #[.slice xa n cap, .func (.func 38) #[] #[]] w fun e w' => (∃ r : Int, e = .returned (.int .i64 r) ∧ decide (0 ≤ r) = (List.range n).any P) ∧ Below w.heap.size w w' := by
  go_enter Tryz.func72, Tryz.ntmps72
  go_wp2_with fail
  go_loopw [8] (fun iv wr => ∃ k : Nat, k ≤ n ∧ iv = .int .i64 (k : Int) ∧ (List.range k).any P = false ∧ Below w.heap.size w wr) (fun iv _ => n - (intOf iv).toNat)
  case atStart => exact ⟨0, Nat.zero_le _, rfl, rfl, Below.refl _ _⟩
  case round =>
    obtain ⟨k, hk, rfl, hl, hB⟩ := hrel
    have HL := Lib.hid hl
    clear hl
    by_cases hlt : k < n
    · have hr1 := hr.belowAt hB (Nat.le_refl _)
      obtain ⟨b, o, rfl, hb, hck, hck2⟩ := Rf.at hr1 hlt
      have HP := Lib.hid (hp k hlt wr hB)
      obtain ⟨sk, hsk⟩ : ∃ sk, u k = sk := ⟨_, rfl⟩
      obtain ⟨tk, htk⟩ : ∃ tk, v k = tk := ⟨_, rfl⟩
      rw [hsk] at hck HP
      rw [htk] at hck2 HP
      clear hsk htk
      have HB := Lib.hid hB
      clear hr hr1 hp hB
      go_wp2_with fail
      refine HP.out.mono ?_
      rintro e w' ⟨rfl, hB1⟩
      have hB2 := HB.out.trans (hB1.mono HB.out.size)
      have hsu : (List.range (k + 1)).any P = ((List.range k).any P || P k) := by rw [List.range_succ, List.any_append]; simp
      cases hpk : P k with
      | true =>
        have HT := Lib.hid (show decide ((0 : Int) ≤ (k : Int)) = (List.range n).any P by
          rw [decide_eq_true (by omega)]
          exact (List.any_eq_true.2 ⟨k, List.mem_range.2 hlt, hpk⟩).symm)
        clear hsu hpk hB1
        go_wp2_with fail
        go_ret
        exact ⟨⟨_, rfl, HT.out⟩, hB2⟩
      | false =>
        have HT := Lib.hid (show (List.range (k + 1)).any P = false by rw [hsu, HL.out, hpk]; rfl)
        clear hsu hpk hB1
        go_wp2_with fail
        go_roundw
        case rel => exact ⟨k + 1, by omega, by simp, HT.out, hB2⟩
        case measure => simp [intOf]; omega
    · obtain rfl : k = n := by omega
      clear hr hp
      go_wp2_with fail
      go_ret
      exact ⟨⟨-1, rfl, by rw [HL.out]; rfl⟩, hB⟩

set_option maxRecDepth 100000 in
set_option maxHeartbeats 1000000 in
theorem hasWrong5 (w : World) (xa : Option Addr) (n cap : Nat) (u v : Nat → ByteArray) (hr : Rf w xa n u v) (hlim : n ≤ 100000) (P : Nat → Bool) (hp : ∀ i, i < n → ∀ W, Below w.heap.size w W → Calls Tryz.prog 38 #[.agg #[.string (u i), .string (v i)]] W fun e W' => e = .returned (.bool (P i)) ∧ Below W.heap.size W W') :
    Calls Tryz.prog 37 #[.slice xa n cap, .func (.func 38) #[] #[]] w fun e w' => e = .returned (.bool ((List.range n).any P)) ∧ Below w.heap.size w w' := by
  have HI := Lib.hid (idxWrong5 w xa n cap u v hr hlim P hp)
  clear hp hr
  go_enter Tryz.func37, Tryz.ntmps37
  go_wp2_with fail
  refine HI.out.mono ?_
  rintro _ w1 ⟨⟨r, rfl, hd⟩, hB⟩
  have HD := Lib.hid hd
  clear hd
  go_wp2_with fail
  go_ret
  exact ⟨by rw [← HD.out]; simp, hB⟩

/-- bags in memory: m of them -/
structure Bags (w : World) (xa : Option Addr) (m : Nat) (xs : Nat → Option Addr) (ns cs : Nat → Nat) (u v : Nat → Nat → ByteArray) : Prop where
  row : Rc w xa m fun i => .slice (xs i) (ns i) (cs i)
  each : ∀ i, i < m → Rf w (xs i) (ns i) (u i) (v i)
  max : ∀ i, i < m → ns i ≤ 9223372036854775807
set_option maxRecDepth 100000 in
set_option maxHeartbeats 1000000 in
theorem rGreats (w : World) (xa : Option Addr) (m cap : Nat) (xs : Nat → Option Addr) (ns cs : Nat → Nat) (u v : Nat → Nat → ByteArray) (h : Bags w xa m xs ns cs u v) (hm : m ≤ 100000) :
    Calls Tryz.prog 18 #[.slice xa m cap] w fun e w' => e = .returned (.bool ((List.range m).any fun i => greatB (ns i) (u i) (v i))) ∧ Below w.heap.size w w' := by
  have HI := Lib.hid (hasBag w xa m cap xs ns cs h.row hm (fun i => greatB (ns i) (u i) (v i)) (fun i hi W hB => (rGreatB W (xs i) (ns i) (cs i) (u i) (v i) ((h.each i hi).belowAt hB (Nat.le_refl _)) (h.max i hi)).mono fun _ _ hh => ⟨hh.1, hh.2 ▸ Below.refl _ _⟩))
  clear h
  go_enter Tryz.func18, Tryz.ntmps18
  go_wp2_with fail
  refine HI.out.mono ?_
  rintro _ w1 ⟨rfl, hB⟩
  go_wp2_with fail
  go_ret
  exact ⟨rfl, hB⟩

end Go.Proofs.YtahnkmkmoalbhaaGreatDoor

/- The reference of layer 5: Text: the walk, over a contract of layer 3's TextOf. -/
namespace Go.Proofs.YtahnkmkmoalbhaaGreatDoor
open Go.RowKit

theorem TwoAt.lt {w : World} {b : Nat} {t : TypeId} {x y : Value} (h : TwoAt w b t x y) : b < w.heap.size := by
  unfold TwoAt at h
  rcases Nat.lt_or_ge b w.heap.size with h' | h'
  · exact h'
  · rw [Array.getElem?_eq_none h'] at h; simp at h
theorem TwoAt.below {w w' : World} {b : Nat} {t : TypeId} {x y : Value} (h : TwoAt w b t x y) (hb : Below w.heap.size w w') : TwoAt w' b t x y := by
  have hl := h.lt
  unfold TwoAt at *; rw [hb.block b hl]; exact h
/-- a string and an error -/
def strE (u : ByteArray) (e : Int) : Value := .tuple #[.string u, .int .i64 e]
end Go.Proofs.YtahnkmkmoalbhaaGreatDoor

/- The reference of layer 5: Parse: the walk, over a contract of layer 3's Parse. -/
namespace Go.Proofs.YtahnkmkmoalbhaaGreatDoor
open Go.RowKit

/-- an amount and an error -/
def monE (c a : ByteArray) (e : Int) : Value := .tuple #[.agg #[.string c, .string a], .int .i64 e]
end Go.Proofs.YtahnkmkmoalbhaaGreatDoor
