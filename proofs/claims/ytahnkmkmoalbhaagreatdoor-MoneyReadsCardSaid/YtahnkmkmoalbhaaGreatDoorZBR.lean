/- Layer 5, the program: Text, Parse: the walks. -/
import Derived.Test.YtahnkmkmoalbhaaGreatDoorZBJ
import Derived.Test.YtahnkmkmoalbhaaGreatDoorZBL
import Derived.Test.YtahnkmkmoalbhaaGreatDoorZBM
import Derived.Test.YtahnkmkmoalbhaaGreatDoorZBQ
namespace Go.Proofs.YtahnkmkmoalbhaaGreatDoor
open Go.RowKit Go.Shelf

set_option maxRecDepth 100000 in
set_option maxHeartbeats 16000000 in
theorem pText_tab {n : Nat} {c : Nat → ByteArray} {p : Nat → Int} {x z : ByteArray} (hf : FitT n c) (h : tabE n c p ≠ 0) (W : World) (xa : Option Addr) (ca : Nat) (hG : Ground W) (hx : Rt W xa n c p) :
    Calls Tryz.prog 31 #[.slice xa n (n + ca), .agg #[.string x, .string z]] W (ValP (strE ⟨#[]⟩ 1) W) := by
  obtain ⟨W0, hW0⟩ : ∃ V, V = W.alloc (.cells #[.string x, .string z] 35) := ⟨_, rfl⟩
  have hP0 : PairAt W0 W.heap.size 35 x z := by rw [hW0]; exact PairAt.made _ _ _ _
  have hb0 : Below W.heap.size W W0 := by rw [hW0]; exact (Below.refl _ _).alloc (Nat.le_refl _) _
  obtain ⟨B0, hB0⟩ : ∃ q, W.heap.size = q := ⟨_, rfl⟩
  rw [hB0] at hP0
  have HP := Lib.hid hP0
  have HB := Lib.hid hb0
  have HCK := Lib.hid (pTab W0 xa n (n + ca) (by omega) c p (hx.belowAt hb0 (Nat.le_refl _)) hf)
  have hmax := hf.max
  have HFI := Lib.hid (fun V (hB : Below W.heap.size W V) => pFind V xa n (n + ca) c p x (hx.belowAt hB (Nat.le_refl _)) (by omega))
  obtain ⟨d, hd⟩ : ∃ d, tabE n c p = d := ⟨_, rfl⟩
  rw [hd] at HCK
  have hdb : (d != 0) = true := by rw [bne_iff_ne, ← hd]; exact h
  clear hd h HFI
  have _ := hG
  unfold ValP strE
  clear hx hf hmax hP0 hb0 hG
  go_enter Tryz.func31, Tryz.ntmps31
  go_upto_region 1 with fail
  rw [← hW0]
  try rw [hB0]
  clear hW0
  go_wp2_with fail
  refine HCK.out.mono ?_
  rintro _ w1 ⟨rfl, hB⟩
  have hP1 := HP.out.below hB
  have hb := HB.out.trans (hB.mono HB.out.size)
  clear hB HP HB
  obtain ⟨k0, k1, _, _⟩ := hP1.cells
  go_wp2_with fail
  go_ret2
  exact ⟨rfl, by first | exact hb | exact hB0 ▸ hb⟩

set_option maxRecDepth 100000 in
set_option maxHeartbeats 16000000 in
theorem pText_cur {n : Nat} {c : Nat → ByteArray} {p : Nat → Int} {x z : ByteArray} (hf : FitT n c) (h : tabE n c p = 0) (h1 : curI n c x = none) (W : World) (xa : Option Addr) (ca : Nat) (hG : Ground W) (hx : Rt W xa n c p) :
    Calls Tryz.prog 31 #[.slice xa n (n + ca), .agg #[.string x, .string z]] W (ValP (strE ⟨#[]⟩ 12) W) := by
  obtain ⟨W0, hW0⟩ : ∃ V, V = W.alloc (.cells #[.string x, .string z] 35) := ⟨_, rfl⟩
  have hP0 : PairAt W0 W.heap.size 35 x z := by rw [hW0]; exact PairAt.made _ _ _ _
  have hb0 : Below W.heap.size W W0 := by rw [hW0]; exact (Below.refl _ _).alloc (Nat.le_refl _) _
  obtain ⟨B0, hB0⟩ : ∃ q, W.heap.size = q := ⟨_, rfl⟩
  rw [hB0] at hP0
  have HP := Lib.hid hP0
  have HB := Lib.hid hb0
  have HCK := Lib.hid (pTab W0 xa n (n + ca) (by omega) c p (hx.belowAt hb0 (Nat.le_refl _)) hf)
  have hmax := hf.max
  have HFI := Lib.hid (fun V (hB : Below W.heap.size W V) => pFind V xa n (n + ca) c p x (hx.belowAt hB (Nat.le_refl _)) (by omega))
  rw [h] at HCK
  rw [h1] at HFI
  unfold curV at HFI
  dsimp only at HFI
  clear h h1
  have _ := hG
  unfold ValP strE
  clear hx hf hmax hP0 hb0 hG
  go_enter Tryz.func31, Tryz.ntmps31
  go_upto_region 1 with fail
  rw [← hW0]
  try rw [hB0]
  clear hW0
  go_wp2_with fail
  refine HCK.out.mono ?_
  rintro _ w1 ⟨rfl, hB⟩
  have hP1 := HP.out.below hB
  have hb := HB.out.trans (hB.mono HB.out.size)
  clear hB HP HB
  obtain ⟨k0, k1, _, _⟩ := hP1.cells
  go_wp2_with fail
  refine (HFI.out _ (by first | exact hb | exact hB0 ▸ hb)).mono ?_
  rintro _ w2 ⟨rfl, hB2⟩
  have hP2 := hP1.below hB2
  replace hb := hb.trans (hB2.mono hb.size)
  clear hB2 k0 k1 hP1 HFI
  obtain ⟨E1, hE1⟩ : ∃ s, w2.heap.size = s := ⟨_, rfl⟩
  obtain ⟨W3, hW3⟩ : ∃ V, V = w2.alloc (.cells #[.string ⟨#[]⟩, .int .i64 0] 26) := ⟨_, rfl⟩
  have HE := Lib.hid (show TwoAt W3 E1 26 (.string ⟨#[]⟩) (.int .i64 0) by rw [hW3, ← hE1]; exact TwoAt.made _ _ _ _)
  have hb3 : Below w2.heap.size w2 W3 := by rw [hW3]; exact (Below.refl _ _).alloc (Nat.le_refl _) _
  have hP3 := hP2.below hb3
  replace hb := hb.trans (hb3.mono hb.size)
  go_upto_region 4 with fail
  rw [← hW3]
  try rw [hE1]
  clear hW3 hb3 hP2 hE1
  obtain ⟨k0, k1, _, _⟩ := hP3.cells
  obtain ⟨k2, k3, _, _⟩ := HE.out.cells
  go_wp2_with fail
  go_ret2
  exact ⟨rfl, by first | exact hb | exact hB0 ▸ hb⟩

set_option maxRecDepth 100000 in
set_option maxHeartbeats 16000000 in
theorem pText_can {n : Nat} {c : Nat → ByteArray} {p : Nat → Int} {x z : ByteArray} (hf : FitT n c) (hz : z.size ≤ 1000) {i : Nat} (h : tabE n c p = 0) (h1 : curI n c x = some i) (h2 : isCan z = false) (W : World) (xa : Option Addr) (ca : Nat) (hG : Ground W) (hx : Rt W xa n c p) :
    Calls Tryz.prog 31 #[.slice xa n (n + ca), .agg #[.string x, .string z]] W (ValP (strE ⟨#[]⟩ 1) W) := by
  obtain ⟨W0, hW0⟩ : ∃ V, V = W.alloc (.cells #[.string x, .string z] 35) := ⟨_, rfl⟩
  have hP0 : PairAt W0 W.heap.size 35 x z := by rw [hW0]; exact PairAt.made _ _ _ _
  have hb0 : Below W.heap.size W W0 := by rw [hW0]; exact (Below.refl _ _).alloc (Nat.le_refl _) _
  obtain ⟨B0, hB0⟩ : ∃ q, W.heap.size = q := ⟨_, rfl⟩
  rw [hB0] at hP0
  have HP := Lib.hid hP0
  have HB := Lib.hid hb0
  have HCK := Lib.hid (pTab W0 xa n (n + ca) (by omega) c p (hx.belowAt hb0 (Nat.le_refl _)) hf)
  have hmax := hf.max
  have HFI := Lib.hid (fun V (hB : Below W.heap.size W V) => pFind V xa n (n + ca) c p x (hx.belowAt hB (Nat.le_refl _)) (by omega))
  rw [h] at HCK
  rw [h1] at HFI
  unfold curV at HFI
  dsimp only at HFI
  obtain ⟨ci, hci⟩ : ∃ y, c i = y := ⟨_, rfl⟩
  obtain ⟨pi, hpi⟩ : ∃ y, p i = y := ⟨_, rfl⟩
  rw [hci, hpi] at HFI
  have HCA := Lib.hid (fun V => check_any z V (by omega))
  rw [show chk z = 1 by unfold chk; rw [h2]; rfl] at HCA
  clear h h1 h2 hci hpi hz
  have _ := hG
  unfold ValP strE
  clear hx hf hmax hP0 hb0 hG
  go_enter Tryz.func31, Tryz.ntmps31
  go_upto_region 1 with fail
  rw [← hW0]
  try rw [hB0]
  clear hW0
  go_wp2_with fail
  refine HCK.out.mono ?_
  rintro _ w1 ⟨rfl, hB⟩
  have hP1 := HP.out.below hB
  have hb := HB.out.trans (hB.mono HB.out.size)
  clear hB HP HB
  obtain ⟨k0, k1, _, _⟩ := hP1.cells
  go_wp2_with fail
  refine (HFI.out _ (by first | exact hb | exact hB0 ▸ hb)).mono ?_
  rintro _ w2 ⟨rfl, hB2⟩
  have hP2 := hP1.below hB2
  replace hb := hb.trans (hB2.mono hb.size)
  clear hB2 k0 k1 hP1 HFI
  obtain ⟨E1, hE1⟩ : ∃ s, w2.heap.size = s := ⟨_, rfl⟩
  obtain ⟨W3, hW3⟩ : ∃ V, V = w2.alloc (.cells #[.string ci, .int .i64 pi] 26) := ⟨_, rfl⟩
  have HE := Lib.hid (show TwoAt W3 E1 26 (.string ci) (.int .i64 pi) by rw [hW3, ← hE1]; exact TwoAt.made _ _ _ _)
  have hb3 : Below w2.heap.size w2 W3 := by rw [hW3]; exact (Below.refl _ _).alloc (Nat.le_refl _) _
  have hP3 := hP2.below hb3
  replace hb := hb.trans (hb3.mono hb.size)
  go_upto_region 4 with fail
  rw [← hW3]
  try rw [hE1]
  clear hW3 hb3 hP2 hE1
  obtain ⟨k0, k1, _, _⟩ := hP3.cells
  obtain ⟨k2, k3, _, _⟩ := HE.out.cells
  go_wp2_with fail
  refine (HCA.out _).mono ?_
  rintro _ _ ⟨rfl, rfl⟩
  go_wp2_with fail
  go_ret2
  exact ⟨rfl, by first | exact hb | exact hB0 ▸ hb⟩

set_option maxRecDepth 100000 in
set_option maxHeartbeats 16000000 in
theorem pText_ok {n : Nat} {c : Nat → ByteArray} {p : Nat → Int} {x z : ByteArray} (hf : FitT n c) (hz : z.size ≤ 1000) (hxs : x.size ≤ 1000) {i : Nat} (h : tabE n c p = 0) (h1 : curI n c x = some i) (h2 : isCan z = true) (W : World) (xa : Option Addr) (ca : Nat) (hG : Ground W) (hx : Rt W xa n c p) :
    Calls Tryz.prog 31 #[.slice xa n (n + ca), .agg #[.string x, .string z]] W (ValP (strE (txt (vS z) (p i).toNat ++ ⟨#[32]⟩ ++ x) 0) W) := by
  obtain ⟨W0, hW0⟩ : ∃ V, V = W.alloc (.cells #[.string x, .string z] 35) := ⟨_, rfl⟩
  have hP0 : PairAt W0 W.heap.size 35 x z := by rw [hW0]; exact PairAt.made _ _ _ _
  have hb0 : Below W.heap.size W W0 := by rw [hW0]; exact (Below.refl _ _).alloc (Nat.le_refl _) _
  obtain ⟨B0, hB0⟩ : ∃ q, W.heap.size = q := ⟨_, rfl⟩
  rw [hB0] at hP0
  have HP := Lib.hid hP0
  have HB := Lib.hid hb0
  have HCK := Lib.hid (pTab W0 xa n (n + ca) (by omega) c p (hx.belowAt hb0 (Nat.le_refl _)) hf)
  have hmax := hf.max
  have HFI := Lib.hid (fun V (hB : Below W.heap.size W V) => pFind V xa n (n + ca) c p x (hx.belowAt hB (Nat.le_refl _)) (by omega))
  rw [h] at HCK
  rw [h1] at HFI
  unfold curV at HFI
  dsimp only at HFI
  obtain ⟨ci, hci⟩ : ∃ y, c i = y := ⟨_, rfl⟩
  obtain ⟨pi, hpi⟩ : ∃ y, p i = y := ⟨_, rfl⟩
  rw [hci, hpi] at HFI
  have HCA := Lib.hid (fun V => check_any z V (by omega))
  rw [show chk z = 0 by unfold chk; rw [h2]; rfl] at HCA
  have hii := idx_is h1
  have hg := tabE_zero h
  have hlo := hg.low i hii.1
  have hhi := hg.high i hii.1
  have hcx : ci = x := by rw [← hci]; exact of_decide_eq_true hii.2.1
  have HTO := Lib.hid (text_ok (s := z) (z := vS z) (p := (p i).toNat) (by omega) rfl (by omega))
  rw [show (((p i).toNat : Nat) : Int) = p i by omega] at HTO
  have htx := txt_size (z := vS z) (p i).toNat (Cap.of hz rfl)
  have htx2 : (txt (vS z) (p i).toNat).size ≤ 2000 := by omega
  clear htx
  rw [hpi] at htx2 ⊢
  rw [hpi] at HTO
  rw [hcx] at HFI
  obtain ⟨tx, htxx⟩ : ∃ t, txt (vS z) pi.toNat = t := ⟨_, rfl⟩
  rw [htxx] at HTO htx2 ⊢
  have HG := Lib.hid hG
  unfold Ret two at HTO
  clear h h1 h2 hci hpi hz hii hg hlo hhi hcx htxx
  have _ := hG
  unfold ValP strE
  clear hx hf hmax hP0 hb0 hG
  go_enter Tryz.func31, Tryz.ntmps31
  go_upto_region 1 with fail
  rw [← hW0]
  try rw [hB0]
  clear hW0
  go_wp2_with fail
  refine HCK.out.mono ?_
  rintro _ w1 ⟨rfl, hB⟩
  have hP1 := HP.out.below hB
  have hb := HB.out.trans (hB.mono HB.out.size)
  clear hB HP HB
  obtain ⟨k0, k1, _, _⟩ := hP1.cells
  go_wp2_with fail
  refine (HFI.out _ (by first | exact hb | exact hB0 ▸ hb)).mono ?_
  rintro _ w2 ⟨rfl, hB2⟩
  have hP2 := hP1.below hB2
  replace hb := hb.trans (hB2.mono hb.size)
  clear hB2 k0 k1 hP1 HFI
  obtain ⟨E1, hE1⟩ : ∃ s, w2.heap.size = s := ⟨_, rfl⟩
  obtain ⟨W3, hW3⟩ : ∃ V, V = w2.alloc (.cells #[.string x, .int .i64 pi] 26) := ⟨_, rfl⟩
  have HE := Lib.hid (show TwoAt W3 E1 26 (.string x) (.int .i64 pi) by rw [hW3, ← hE1]; exact TwoAt.made _ _ _ _)
  have hb3 : Below w2.heap.size w2 W3 := by rw [hW3]; exact (Below.refl _ _).alloc (Nat.le_refl _) _
  have hP3 := hP2.below hb3
  replace hb := hb.trans (hb3.mono hb.size)
  go_upto_region 4 with fail
  rw [← hW3]
  try rw [hE1]
  clear hW3 hb3 hP2 hE1
  obtain ⟨k0, k1, _, _⟩ := hP3.cells
  obtain ⟨k2, k3, _, _⟩ := HE.out.cells
  go_wp2_with fail
  refine (HCA.out _).mono ?_
  rintro _ _ ⟨rfl, rfl⟩
  go_wp2_with fail
  refine (HTO.out _ (HG.out.below (by first | exact hb | exact hB0 ▸ hb))).mono ?_
  rintro _ w4 ⟨rfl, hB4⟩
  have hE4 := HE.out.below hB4
  replace hb := hb.trans (hB4.mono hb.size)
  clear k0 k1 k2 k3 hB4 HE hP3
  obtain ⟨k2, k3, _, _⟩ := hE4.cells
  have hs1 : tx.size + 1 ≤ 1000000 := by omega
  have hs2 : tx.size + 1 + x.size ≤ 1000000 := by omega
  go_wp2_with fail
  go_ret2
  exact ⟨rfl, by first | exact hb | exact hB0 ▸ hb⟩

set_option maxRecDepth 100000 in
set_option maxHeartbeats 16000000 in
theorem pPar_tab {n : Nat} {c : Nat → ByteArray} {p : Nat → Int} {s : ByteArray} (hf : FitT n c) (h : tabE n c p ≠ 0) (W : World) (xa : Option Addr) (ca : Nat) (hG : Ground W) (hx : Rt W xa n c p) :
    Calls Tryz.prog 33 #[.slice xa n (n + ca), .string s] W (ValP (monE ⟨#[]⟩ ⟨#[]⟩ 1) W) := by
  obtain ⟨W0, hW0⟩ : ∃ V, V = W.alloc (.cells #[.string ⟨#[]⟩, .string ⟨#[]⟩] 35) := ⟨_, rfl⟩
  obtain ⟨B0, hB0⟩ : ∃ q, W.heap.size = q := ⟨_, rfl⟩
  have hP0 : PairAt W0 B0 35 ⟨#[]⟩ ⟨#[]⟩ := by rw [hW0, ← hB0]; exact PairAt.made _ _ _ _
  have hb0 : Below W.heap.size W W0 := by rw [hW0]; exact (Below.refl _ _).alloc (Nat.le_refl _) _
  have HP := Lib.hid hP0
  have HB := Lib.hid hb0
  have HBW := Lib.hid (show W.heap.size ≤ B0 by omega)
  have HCK := Lib.hid (pTab W0 xa n (n + ca) (by omega) c p (hx.belowAt hb0 (Nat.le_refl _)) hf)
  obtain ⟨d, hd⟩ : ∃ d, tabE n c p = d := ⟨_, rfl⟩
  rw [hd] at HCK
  have hdb : (d != 0) = true := by rw [bne_iff_ne, ← hd]; exact h
  clear hd h
  have _ := hG
  unfold ValP monE
  clear hx hf hP0 hb0 hG
  go_enter Tryz.func33, Tryz.ntmps33
  go_upto_region 1 with fail
  rw [← hW0]
  try rw [hB0]
  clear hW0
  go_wp2_with fail
  refine HCK.out.mono ?_
  rintro _ w1 ⟨rfl, hB⟩
  have hP1 := HP.out.below hB
  have hb := HB.out.trans (hB.mono HB.out.size)
  clear hB HP HB
  obtain ⟨m0, m1, m2, m3⟩ := hP1.cells
  have hPN := hP1.put ⟨#[]⟩ ⟨#[]⟩
  obtain ⟨l0, l1, _, _⟩ := hPN.cells
  have HBN := Lib.hid ((hb.setCell (p := ⟨B0, 0, none⟩) HBW.out (.string ⟨#[]⟩)).setCell (p := ⟨B0, 1, none⟩) HBW.out (.string ⟨#[]⟩))
  clear hPN
  go_wp2_with fail
  (try simp only [Exit.inBlock, Exit.then])
  exact bodyPost_ret (v := .tuple #[.agg #[.string ⟨#[]⟩, .string ⟨#[]⟩], .int .i64 (1)]) (by simp [results, Tryz.results33, go_sem, l0, l1]) rfl ⟨rfl, by first | exact HBN.out | exact hB0 ▸ HBN.out⟩

set_option maxRecDepth 100000 in
set_option maxHeartbeats 16000000 in
theorem pPar_long {n : Nat} {c : Nat → ByteArray} {p : Nat → Int} {s : ByteArray} (hf : FitT n c) (h : tabE n c p = 0) (h1 : 65536 < s.size) (W : World) (xa : Option Addr) (ca : Nat) (hG : Ground W) (hx : Rt W xa n c p) :
    Calls Tryz.prog 33 #[.slice xa n (n + ca), .string s] W (ValP (monE ⟨#[]⟩ ⟨#[]⟩ 4) W) := by
  obtain ⟨W0, hW0⟩ : ∃ V, V = W.alloc (.cells #[.string ⟨#[]⟩, .string ⟨#[]⟩] 35) := ⟨_, rfl⟩
  obtain ⟨B0, hB0⟩ : ∃ q, W.heap.size = q := ⟨_, rfl⟩
  have hP0 : PairAt W0 B0 35 ⟨#[]⟩ ⟨#[]⟩ := by rw [hW0, ← hB0]; exact PairAt.made _ _ _ _
  have hb0 : Below W.heap.size W W0 := by rw [hW0]; exact (Below.refl _ _).alloc (Nat.le_refl _) _
  have HP := Lib.hid hP0
  have HB := Lib.hid hb0
  have HBW := Lib.hid (show W.heap.size ≤ B0 by omega)
  have HCK := Lib.hid (pTab W0 xa n (n + ca) (by omega) c p (hx.belowAt hb0 (Nat.le_refl _)) hf)
  rw [h] at HCK
  have hi : (65536 : Int) < (s.size : Int) := by omega
  clear h h1
  have _ := hG
  unfold ValP monE
  clear hx hf hP0 hb0 hG
  go_enter Tryz.func33, Tryz.ntmps33
  go_upto_region 1 with fail
  rw [← hW0]
  try rw [hB0]
  clear hW0
  go_wp2_with fail
  refine HCK.out.mono ?_
  rintro _ w1 ⟨rfl, hB⟩
  have hP1 := HP.out.below hB
  have hb := HB.out.trans (hB.mono HB.out.size)
  clear hB HP HB
  obtain ⟨m0, m1, m2, m3⟩ := hP1.cells
  have hPN := hP1.put ⟨#[]⟩ ⟨#[]⟩
  obtain ⟨l0, l1, _, _⟩ := hPN.cells
  have HBN := Lib.hid ((hb.setCell (p := ⟨B0, 0, none⟩) HBW.out (.string ⟨#[]⟩)).setCell (p := ⟨B0, 1, none⟩) HBW.out (.string ⟨#[]⟩))
  clear hPN
  go_wp2_with fail
  (try simp only [Exit.inBlock, Exit.then])
  exact bodyPost_ret (v := .tuple #[.agg #[.string ⟨#[]⟩, .string ⟨#[]⟩], .int .i64 (4)]) (by simp [results, Tryz.results33, go_sem, l0, l1]) rfl ⟨rfl, by first | exact HBN.out | exact hB0 ▸ HBN.out⟩

set_option maxRecDepth 100000 in
set_option maxHeartbeats 16000000 in
theorem pPar_no {n : Nat} {c : Nat → ByteArray} {p : Nat → Int} {s : ByteArray} (hf : FitT n c) (h : tabE n c p = 0) (h1 : s.size ≤ 65536) (h2 : Lib.lastIndexByte s 32 = -1) (W : World) (xa : Option Addr) (ca : Nat) (hG : Ground W) (hx : Rt W xa n c p) :
    Calls Tryz.prog 33 #[.slice xa n (n + ca), .string s] W (ValP (monE ⟨#[]⟩ ⟨#[]⟩ 3) W) := by
  obtain ⟨W0, hW0⟩ : ∃ V, V = W.alloc (.cells #[.string ⟨#[]⟩, .string ⟨#[]⟩] 35) := ⟨_, rfl⟩
  obtain ⟨B0, hB0⟩ : ∃ q, W.heap.size = q := ⟨_, rfl⟩
  have hP0 : PairAt W0 B0 35 ⟨#[]⟩ ⟨#[]⟩ := by rw [hW0, ← hB0]; exact PairAt.made _ _ _ _
  have hb0 : Below W.heap.size W W0 := by rw [hW0]; exact (Below.refl _ _).alloc (Nat.le_refl _) _
  have HP := Lib.hid hP0
  have HB := Lib.hid hb0
  have HBW := Lib.hid (show W.heap.size ≤ B0 by omega)
  have HCK := Lib.hid (pTab W0 xa n (n + ca) (by omega) c p (hx.belowAt hb0 (Nat.le_refl _)) hf)
  rw [h] at HCK
  have hi : ¬ (65536 : Int) < (s.size : Int) := by omega
  have HLI := Lib.hid (fun V => Tryz.strings_LastIndexByte s 32 (by omega) V)
  rw [h2] at HLI
  clear h h1 h2
  have _ := hG
  unfold ValP monE
  clear hx hf hP0 hb0 hG
  go_enter Tryz.func33, Tryz.ntmps33
  go_upto_region 1 with fail
  rw [← hW0]
  try rw [hB0]
  clear hW0
  go_wp2_with fail
  refine HCK.out.mono ?_
  rintro _ w1 ⟨rfl, hB⟩
  have hP1 := HP.out.below hB
  have hb := HB.out.trans (hB.mono HB.out.size)
  clear hB HP HB
  go_wp2_with fail
  refine (HLI.out _).mono ?_
  rintro _ _ ⟨rfl, rfl⟩
  obtain ⟨m0, m1, m2, m3⟩ := hP1.cells
  have hPN := hP1.put ⟨#[]⟩ ⟨#[]⟩
  obtain ⟨l0, l1, _, _⟩ := hPN.cells
  have HBN := Lib.hid ((hb.setCell (p := ⟨B0, 0, none⟩) HBW.out (.string ⟨#[]⟩)).setCell (p := ⟨B0, 1, none⟩) HBW.out (.string ⟨#[]⟩))
  clear hPN
  go_wp2_with fail
  (try simp only [Exit.inBlock, Exit.then])
  exact bodyPost_ret (v := .tuple #[.agg #[.string ⟨#[]⟩, .string ⟨#[]⟩], .int .i64 (3)]) (by simp [results, Tryz.results33, go_sem, l0, l1]) rfl ⟨rfl, by first | exact HBN.out | exact hB0 ▸ HBN.out⟩

set_option maxRecDepth 100000 in
set_option maxHeartbeats 16000000 in
theorem pPar_code {n : Nat} {c : Nat → ByteArray} {p : Nat → Int} {s : ByteArray} (hf : FitT n c) (h : tabE n c p = 0) (h1 : s.size ≤ 65536) {k : Nat} (hk : k < s.size) (h2 : Lib.lastIndexByte s 32 = k) (h3 : codeS (s.extract (k + 1) s.size) = false) (W : World) (xa : Option Addr) (ca : Nat) (hG : Ground W) (hx : Rt W xa n c p) :
    Calls Tryz.prog 33 #[.slice xa n (n + ca), .string s] W (ValP (monE ⟨#[]⟩ ⟨#[]⟩ 3) W) := by
  obtain ⟨W0, hW0⟩ : ∃ V, V = W.alloc (.cells #[.string ⟨#[]⟩, .string ⟨#[]⟩] 35) := ⟨_, rfl⟩
  obtain ⟨B0, hB0⟩ : ∃ q, W.heap.size = q := ⟨_, rfl⟩
  have hP0 : PairAt W0 B0 35 ⟨#[]⟩ ⟨#[]⟩ := by rw [hW0, ← hB0]; exact PairAt.made _ _ _ _
  have hb0 : Below W.heap.size W W0 := by rw [hW0]; exact (Below.refl _ _).alloc (Nat.le_refl _) _
  have HP := Lib.hid hP0
  have HB := Lib.hid hb0
  have HBW := Lib.hid (show W.heap.size ≤ B0 by omega)
  have HCK := Lib.hid (pTab W0 xa n (n + ca) (by omega) c p (hx.belowAt hb0 (Nat.le_refl _)) hf)
  rw [h] at HCK
  have hi : ¬ (65536 : Int) < (s.size : Int) := by omega
  have HLI := Lib.hid (fun V => Tryz.strings_LastIndexByte s 32 (by omega) V)
  rw [h2] at HLI
  have hw1 : IntKind.i64.wrap ((k : Int) + 1) = ((k + 1 : Nat) : Int) := by rw [IntWalk.i64_in _ (by omega)]; omega
  have HCO := Lib.hid (fun V => pCode (s.extract (k + 1) s.size) V (by rw [ByteArray.size_extract]; omega))
  rw [h3] at HCO
  have e1 : ¬ (k : Int) < 0 := by omega
  have e2 : ((k + 1 : Nat) : Int) ≤ (s.size : Int) := by omega
  have e3 : (0 : Int) ≤ ((k + 1 : Nat) : Int) := by omega
  have e4 : (((k + 1 : Nat) : Int)).toNat = k + 1 := by omega
  clear h h1 h2 h3
  have _ := hG
  unfold ValP monE
  clear hx hf hP0 hb0 hG
  go_enter Tryz.func33, Tryz.ntmps33
  go_upto_region 1 with fail
  rw [← hW0]
  try rw [hB0]
  clear hW0
  go_wp2_with fail
  refine HCK.out.mono ?_
  rintro _ w1 ⟨rfl, hB⟩
  have hP1 := HP.out.below hB
  have hb := HB.out.trans (hB.mono HB.out.size)
  clear hB HP HB
  go_wp2_with fail
  refine (HLI.out _).mono ?_
  rintro _ _ ⟨rfl, rfl⟩
  go_wp2_with fail
  refine (HCO.out _).mono ?_
  rintro _ _ ⟨rfl, rfl⟩
  obtain ⟨m0, m1, m2, m3⟩ := hP1.cells
  have hPN := hP1.put ⟨#[]⟩ ⟨#[]⟩
  obtain ⟨l0, l1, _, _⟩ := hPN.cells
  have HBN := Lib.hid ((hb.setCell (p := ⟨B0, 0, none⟩) HBW.out (.string ⟨#[]⟩)).setCell (p := ⟨B0, 1, none⟩) HBW.out (.string ⟨#[]⟩))
  clear hPN
  go_wp2_with fail
  (try simp only [Exit.inBlock, Exit.then])
  exact bodyPost_ret (v := .tuple #[.agg #[.string ⟨#[]⟩, .string ⟨#[]⟩], .int .i64 (3)]) (by simp [results, Tryz.results33, go_sem, l0, l1]) rfl ⟨rfl, by first | exact HBN.out | exact hB0 ▸ HBN.out⟩

set_option maxRecDepth 100000 in
set_option maxHeartbeats 16000000 in
theorem pPar_none {n : Nat} {c : Nat → ByteArray} {p : Nat → Int} {s : ByteArray} (hf : FitT n c) {m : Nat} (h : tabE n c p = 0) (h1 : s.size ≤ 65536) (hm : ParP s m) (h2 : curI n c (s.extract (m + 1) s.size) = none) (W : World) (xa : Option Addr) (ca : Nat) (hG : Ground W) (hx : Rt W xa n c p) :
    Calls Tryz.prog 33 #[.slice xa n (n + ca), .string s] W (ValP (monE ⟨#[]⟩ ⟨#[]⟩ 12) W) := by
  obtain ⟨W0, hW0⟩ : ∃ V, V = W.alloc (.cells #[.string ⟨#[]⟩, .string ⟨#[]⟩] 35) := ⟨_, rfl⟩
  obtain ⟨B0, hB0⟩ : ∃ q, W.heap.size = q := ⟨_, rfl⟩
  have hP0 : PairAt W0 B0 35 ⟨#[]⟩ ⟨#[]⟩ := by rw [hW0, ← hB0]; exact PairAt.made _ _ _ _
  have hb0 : Below W.heap.size W W0 := by rw [hW0]; exact (Below.refl _ _).alloc (Nat.le_refl _) _
  have HP := Lib.hid hP0
  have HB := Lib.hid hb0
  have HBW := Lib.hid (show W.heap.size ≤ B0 by omega)
  have HCK := Lib.hid (pTab W0 xa n (n + ca) (by omega) c p (hx.belowAt hb0 (Nat.le_refl _)) hf)
  rw [h] at HCK
  have hi : ¬ (65536 : Int) < (s.size : Int) := by omega
  have HLI := Lib.hid (fun V => Tryz.strings_LastIndexByte s 32 (by omega) V)
  have hs := hm.size
  rw [last_good hm] at HLI
  have hw1 : IntKind.i64.wrap ((m : Int) + 1) = ((m + 1 : Nat) : Int) := by rw [IntWalk.i64_in _ (by omega)]; omega
  have HCO := Lib.hid (fun V => pCode (s.extract (m + 1) s.size) V (by rw [ByteArray.size_extract]; omega))
  rw [hm.code] at HCO
  have e1 : ¬ (m : Int) < 0 := by omega
  have e2 : ((m + 1 : Nat) : Int) ≤ (s.size : Int) := by omega
  have e3 : (0 : Int) ≤ ((m + 1 : Nat) : Int) := by omega
  have e4 : (((m + 1 : Nat) : Int)).toNat = m + 1 := by omega
  have e5 : (m : Int) ≤ (s.size : Int) := by omega
  have e6 : (0 : Int) ≤ (m : Int) := by omega
  have e7 : m ≤ s.size := by omega
  have hmax := hf.max
  have HFI := Lib.hid (fun V (hB : Below W.heap.size W V) => pFind V xa n (n + ca) c p (s.extract (m + 1) s.size) (hx.belowAt hB (Nat.le_refl _)) (by omega))
  rw [h2] at HFI
  unfold curV at HFI
  dsimp only at HFI
  clear h h1 h2 hm hs hmax
  have _ := hG
  unfold ValP monE
  clear hx hf hP0 hb0 hG
  go_enter Tryz.func33, Tryz.ntmps33
  go_upto_region 1 with fail
  rw [← hW0]
  try rw [hB0]
  clear hW0
  go_wp2_with fail
  refine HCK.out.mono ?_
  rintro _ w1 ⟨rfl, hB⟩
  have hP1 := HP.out.below hB
  have hb := HB.out.trans (hB.mono HB.out.size)
  clear hB HP HB
  go_wp2_with fail
  refine (HLI.out _).mono ?_
  rintro _ _ ⟨rfl, rfl⟩
  go_wp2_with fail
  refine (HCO.out _).mono ?_
  rintro _ _ ⟨rfl, rfl⟩
  go_wp2_with fail
  refine (HFI.out _ (by first | exact hb | exact hB0 ▸ hb)).mono ?_
  rintro _ w2 ⟨rfl, hB2⟩
  have hP2 := hP1.below hB2
  replace hb := hb.trans (hB2.mono hb.size)
  clear hB2 hP1 HFI HLI HCO
  obtain ⟨E1, hE1⟩ : ∃ q, w2.heap.size = q := ⟨_, rfl⟩
  obtain ⟨W3, hW3⟩ : ∃ V, V = w2.alloc (.cells #[.string ⟨#[]⟩, .int .i64 0] 26) := ⟨_, rfl⟩
  have HE := Lib.hid (show TwoAt W3 E1 26 (.string ⟨#[]⟩) (.int .i64 0) by rw [hW3, ← hE1]; exact TwoAt.made _ _ _ _)
  have hb3 : Below w2.heap.size w2 W3 := by rw [hW3]; exact (Below.refl _ _).alloc (Nat.le_refl _) _
  have hP3 := hP2.below hb3
  have hBE : B0 ≠ E1 := by have := hP2.lt; omega
  replace hb := hb.trans (hb3.mono hb.size)
  go_upto_region 9 with fail
  rw [← hW3]
  try rw [hE1]
  clear hW3 hb3 hP2 hE1
  obtain ⟨m0, m1, m2, m3⟩ := hP3.cells
  have hPN := hP3.put ⟨#[]⟩ ⟨#[]⟩
  obtain ⟨l0, l1, _, _⟩ := hPN.cells
  have HBN := Lib.hid ((hb.setCell (p := ⟨B0, 0, none⟩) HBW.out (.string ⟨#[]⟩)).setCell (p := ⟨B0, 1, none⟩) HBW.out (.string ⟨#[]⟩))
  clear hPN
  go_wp2_with fail
  (try simp only [Exit.inBlock, Exit.then])
  exact bodyPost_ret (v := .tuple #[.agg #[.string ⟨#[]⟩, .string ⟨#[]⟩], .int .i64 (12)]) (by simp [results, Tryz.results33, go_sem, l0, l1]) rfl ⟨rfl, by first | exact HBN.out | exact hB0 ▸ HBN.out⟩

set_option maxRecDepth 100000 in
set_option maxHeartbeats 16000000 in
theorem pPar_err {n : Nat} {c : Nat → ByteArray} {p : Nat → Int} {s : ByteArray} (hf : FitT n c) {m : Nat} (h : tabE n c p = 0) (h1 : s.size ≤ 65536) (hm : ParP s m) {i : Nat} (h2 : curI n c (s.extract (m + 1) s.size) = some i) (a : ByteArray) (ee : Int) (he : ee ≠ 0) (hP : Ret 65 #[.string (s.extract 0 m), .int .i64 (p i)] (two a ee)) (W : World) (xa : Option Addr) (ca : Nat) (hG : Ground W) (hx : Rt W xa n c p) :
    Calls Tryz.prog 33 #[.slice xa n (n + ca), .string s] W (ValP (monE ⟨#[]⟩ ⟨#[]⟩ ee) W) := by
  obtain ⟨W0, hW0⟩ : ∃ V, V = W.alloc (.cells #[.string ⟨#[]⟩, .string ⟨#[]⟩] 35) := ⟨_, rfl⟩
  obtain ⟨B0, hB0⟩ : ∃ q, W.heap.size = q := ⟨_, rfl⟩
  have hP0 : PairAt W0 B0 35 ⟨#[]⟩ ⟨#[]⟩ := by rw [hW0, ← hB0]; exact PairAt.made _ _ _ _
  have hb0 : Below W.heap.size W W0 := by rw [hW0]; exact (Below.refl _ _).alloc (Nat.le_refl _) _
  have HP := Lib.hid hP0
  have HB := Lib.hid hb0
  have HBW := Lib.hid (show W.heap.size ≤ B0 by omega)
  have HCK := Lib.hid (pTab W0 xa n (n + ca) (by omega) c p (hx.belowAt hb0 (Nat.le_refl _)) hf)
  rw [h] at HCK
  have hi : ¬ (65536 : Int) < (s.size : Int) := by omega
  have HLI := Lib.hid (fun V => Tryz.strings_LastIndexByte s 32 (by omega) V)
  have hs := hm.size
  rw [last_good hm] at HLI
  have hw1 : IntKind.i64.wrap ((m : Int) + 1) = ((m + 1 : Nat) : Int) := by rw [IntWalk.i64_in _ (by omega)]; omega
  have HCO := Lib.hid (fun V => pCode (s.extract (m + 1) s.size) V (by rw [ByteArray.size_extract]; omega))
  rw [hm.code] at HCO
  have e1 : ¬ (m : Int) < 0 := by omega
  have e2 : ((m + 1 : Nat) : Int) ≤ (s.size : Int) := by omega
  have e3 : (0 : Int) ≤ ((m + 1 : Nat) : Int) := by omega
  have e4 : (((m + 1 : Nat) : Int)).toNat = m + 1 := by omega
  have e5 : (m : Int) ≤ (s.size : Int) := by omega
  have e6 : (0 : Int) ≤ (m : Int) := by omega
  have e7 : m ≤ s.size := by omega
  have hmax := hf.max
  have HFI := Lib.hid (fun V (hB : Below W.heap.size W V) => pFind V xa n (n + ca) c p (s.extract (m + 1) s.size) (hx.belowAt hB (Nat.le_refl _)) (by omega))
  have hii := idx_is h2
  have hcx : c i = s.extract (m + 1) s.size := of_decide_eq_true hii.2.1
  rw [h2] at HFI
  unfold curV at HFI
  dsimp only at HFI
  rw [hcx] at HFI
  obtain ⟨pi, hpi⟩ : ∃ y, p i = y := ⟨_, rfl⟩
  rw [hpi] at HFI hP
  have HPA := Lib.hid hP
  have HG := Lib.hid hG
  have hse : (s.extract 0 m).size ≤ 65536 := by rw [ByteArray.size_extract]; omega
  unfold Ret two at HPA
  clear h h1 h2 hm hs hmax hii hcx hpi hP hse
  have hb2 : (ee != 0) = true := by rw [bne_iff_ne]; exact he
  clear he
  have _ := hG
  unfold ValP monE
  clear hx hf hP0 hb0 hG
  go_enter Tryz.func33, Tryz.ntmps33
  go_upto_region 1 with fail
  rw [← hW0]
  try rw [hB0]
  clear hW0
  go_wp2_with fail
  refine HCK.out.mono ?_
  rintro _ w1 ⟨rfl, hB⟩
  have hP1 := HP.out.below hB
  have hb := HB.out.trans (hB.mono HB.out.size)
  clear hB HP HB
  go_wp2_with fail
  refine (HLI.out _).mono ?_
  rintro _ _ ⟨rfl, rfl⟩
  go_wp2_with fail
  refine (HCO.out _).mono ?_
  rintro _ _ ⟨rfl, rfl⟩
  go_wp2_with fail
  refine (HFI.out _ (by first | exact hb | exact hB0 ▸ hb)).mono ?_
  rintro _ w2 ⟨rfl, hB2⟩
  have hP2 := hP1.below hB2
  replace hb := hb.trans (hB2.mono hb.size)
  clear hB2 hP1 HFI HLI HCO
  obtain ⟨E1, hE1⟩ : ∃ q, w2.heap.size = q := ⟨_, rfl⟩
  obtain ⟨W3, hW3⟩ : ∃ V, V = w2.alloc (.cells #[.string (s.extract (m + 1) s.size), .int .i64 pi] 26) := ⟨_, rfl⟩
  have HE := Lib.hid (show TwoAt W3 E1 26 (.string (s.extract (m + 1) s.size)) (.int .i64 pi) by rw [hW3, ← hE1]; exact TwoAt.made _ _ _ _)
  have hb3 : Below w2.heap.size w2 W3 := by rw [hW3]; exact (Below.refl _ _).alloc (Nat.le_refl _) _
  have hP3 := hP2.below hb3
  have hBE : B0 ≠ E1 := by have := hP2.lt; omega
  replace hb := hb.trans (hb3.mono hb.size)
  go_upto_region 9 with fail
  rw [← hW3]
  try rw [hE1]
  clear hW3 hb3 hP2 hE1
  obtain ⟨k2, k3, _, _⟩ := HE.out.cells
  go_wp2_with fail
  refine wp_region_held_drew (S := fun w' => w'.cell? ⟨E1, 1, none⟩ = some (.int .i64 pi)) (by kernel_rfl) (by (try dsimp only); first | exact k3 | exact g1) (fun hHeld => ?_)
  refine wpAnyH_take (i := 0) (oi := { dst := some 45, op := Op.move (Operand.tmp 1), type := 9, pos := "money.go:123", after := #[], guard := none }) (v := ?_) rfl (by kernel_rfl) (by kernel_rfl) (by kernel_rfl) (fun _ _ _ h => h) (Or.inl ⟨by rfl, ?_⟩) (by assumption) ?_
  rotate_left
  focus ((intro w hSw; (try dsimp only at hSw); go_simp); (try with_reducible rfl))
  try simp only [Act.put, List.setIfInBounds_toArray, List.set_cons_zero, List.set_cons_succ]
  refine wpAnyH_take (i := 1) (oi := { dst := some 46, op := Op.move (Operand.tmp 6), type := 3, pos := "money.go:123", after := #[], guard := none }) (v := ?_) rfl (by kernel_rfl) (by kernel_rfl) (by kernel_rfl) (fun _ _ _ h => h) (Or.inl ⟨by rfl, ?_⟩) (by assumption) ?_
  rotate_left
  focus ((intro w hSw; (try dsimp only at hSw); go_simp); (try with_reducible rfl))
  try simp only [Act.put, List.setIfInBounds_toArray, List.set_cons_zero, List.set_cons_succ]
  refine wpAnyH_take (i := 3) (oi := { dst := some 48, op := Op.fieldAddr 26 (Operand.tmp 7) 1, type := 0, pos := "money.go:123", after := #[], guard := none }) (v := ?_) rfl (by kernel_rfl) (by kernel_rfl) (by kernel_rfl) (fun _ _ _ h => h) (Or.inl ⟨by rfl, ?_⟩) (by assumption) ?_
  rotate_left
  focus ((intro w hSw; (try dsimp only at hSw); go_simp); (try with_reducible rfl))
  try simp only [Act.put, List.setIfInBounds_toArray, List.set_cons_zero, List.set_cons_succ]
  refine wpAnyH_take (i := 4) (oi := { dst := some 49, op := Op.load 3 (Operand.tmp 48), type := 3, pos := "money.go:123", after := #[{ on := 3, ground := Ground.data }], guard := none }) (v := ?_) rfl (by kernel_rfl) (by kernel_rfl) (by kernel_rfl) (fun _ _ _ h => h) (Or.inl ⟨by rfl, ?_⟩) (by assumption) ?_
  rotate_left
  focus ((intro w hSw; (try dsimp only at hSw); go_simp); (try with_reducible rfl))
  try simp only [Act.put, List.setIfInBounds_toArray, List.set_cons_zero, List.set_cons_succ]
  refine wpAnyH_ready (rs := [2]) (by kernel_rfl) (by simp) ?_
  refine AllReadyH.cons (o := { dst := some 47, op := Op.slice 9 (Operand.tmp 45) none (some (Operand.tmp 46)) none, type := 9, pos := "money.go:123", after := #[{ on := 0, ground := Ground.data }, { on := 1, ground := Ground.data }], guard := none }) rfl (fun K hK => ?_) AllReadyH.nil
  clear hHeld
  go_simp
  refine hK.out _ _ (by (try dsimp only); first | exact k3 | exact g1) (fun hHeld => ?_)
  clear hK K
  try simp only [Act.put, List.setIfInBounds_toArray, List.set_cons_zero, List.set_cons_succ]
  refine wpAnyH_ready (rs := [5]) (by kernel_rfl) (by simp) ?_
  refine AllReadyH.cons (o := { dst := some 50, op := Op.call { callee := Callee.value (Operand.func 65), args := #[Operand.tmp 47, Operand.tmp 49], argTypes := #[9, 3] }, type := 83, pos := "money.go:123", after := #[{ on := 2, ground := Ground.data }, { on := 4, ground := Ground.data }], guard := none }) rfl (fun K hK => ?_) AllReadyH.nil
  clear hHeld
  go_simp
  refine (HPA.out _ (HG.out.below (by first | exact below_drew hb | exact hB0 ▸ below_drew hb))).mono ?_
  rintro _ w4 ⟨rfl, hB4⟩
  have HE4 := Lib.hid (show TwoAt w4 E1 26 (.string (s.extract (m + 1) s.size)) (.int .i64 pi) from TwoAt.below (w := W3.drew) HE.out hB4)
  have hP4 : PairAt w4 B0 35 ⟨#[]⟩ ⟨#[]⟩ := PairAt.below (w := W3.drew) hP3 hB4
  have hb4 := (below_drew hb).trans (hB4.mono (below_drew hb).size)
  clear hB4 hb hP3
  have hb := hb4
  clear hb4
  obtain ⟨g0, g1, _, _⟩ := HE4.out.cells
  go_wp2_with fail
  refine hK.out _ _ (by (try dsimp only); first | exact k3 | exact g1) (fun hHeld => ?_)
  clear hK K
  try simp only [Act.put, List.setIfInBounds_toArray, List.set_cons_zero, List.set_cons_succ]
  refine wpAnyH_take (i := 6) (oi := { dst := some 44, op := Op.move (Operand.tmp 50), type := 83, pos := "money.go:123", after := #[{ on := 5, ground := Ground.data }], guard := none }) (v := ?_) rfl (by kernel_rfl) (by kernel_rfl) (by kernel_rfl) (fun _ _ _ h => h) (Or.inl ⟨by rfl, ?_⟩) (by assumption) ?_
  rotate_left
  focus ((intro w hSw; (try dsimp only at hSw); go_simp); (try with_reducible rfl))
  try simp only [Act.put, List.setIfInBounds_toArray, List.set_cons_zero, List.set_cons_succ]
  refine wpAnyH_take (i := 7) (oi := { dst := some 51, op := Op.extract (Operand.tmp 44) 0, type := 33, pos := "money.go:123", after := #[{ on := 6, ground := Ground.data }], guard := none }) (v := ?_) rfl (by kernel_rfl) (by kernel_rfl) (by kernel_rfl) (fun _ _ _ h => h) (Or.inl ⟨by rfl, ?_⟩) (by assumption) ?_
  rotate_left
  focus ((intro w hSw; (try dsimp only at hSw); go_simp); (try with_reducible rfl))
  try simp only [Act.put, List.setIfInBounds_toArray, List.set_cons_zero, List.set_cons_succ]
  refine wpAnyH_take (i := 8) (oi := { dst := some 52, op := Op.extract (Operand.tmp 44) 1, type := 29, pos := "money.go:123", after := #[{ on := 6, ground := Ground.data }, { on := 9, ground := Ground.gcOnly Departure.lateStores }], guard := none }) (v := ?_) rfl (by kernel_rfl) (by kernel_rfl) (by kernel_rfl) (fun _ _ _ h => h) (Or.inl ⟨by rfl, ?_⟩) (by assumption) ?_
  rotate_left
  focus ((intro w hSw; (try dsimp only at hSw); go_simp); (try with_reducible rfl))
  try simp only [Act.put, List.setIfInBounds_toArray, List.set_cons_zero, List.set_cons_succ]
  refine wpAnyH_take (i := 9) (oi := { dst := some 9, op := Op.assign (Operand.tmp 51), type := 33, pos := "money.go:123", after := #[{ on := 7, ground := Ground.data }, { on := 5, ground := Ground.chain }, { on := 0, ground := Ground.phase }, { on := 1, ground := Ground.phase }, { on := 2, ground := Ground.phase }, { on := 3, ground := Ground.phase }, { on := 4, ground := Ground.phase }, { on := 5, ground := Ground.phase }, { on := 6, ground := Ground.phase }, { on := 7, ground := Ground.phase }, { on := 8, ground := Ground.textOnly Departure.lateStores }], guard := none }) (v := ?_) rfl (by kernel_rfl) (by kernel_rfl) (by kernel_rfl) (fun _ _ _ h => h) (Or.inl ⟨by rfl, ?_⟩) (by assumption) ?_
  rotate_left
  focus ((intro w hSw; (try dsimp only at hSw); go_simp); (try with_reducible rfl))
  try simp only [Act.put, List.setIfInBounds_toArray, List.set_cons_zero, List.set_cons_succ]
  refine wpAnyH_take (i := 10) (oi := { dst := some 10, op := Op.assign (Operand.tmp 52), type := 29, pos := "money.go:123", after := #[{ on := 8, ground := Ground.data }, { on := 9, ground := Ground.chain }, { on := 0, ground := Ground.phase }, { on := 1, ground := Ground.phase }, { on := 2, ground := Ground.phase }, { on := 3, ground := Ground.phase }, { on := 4, ground := Ground.phase }, { on := 5, ground := Ground.phase }, { on := 6, ground := Ground.phase }, { on := 7, ground := Ground.phase }, { on := 8, ground := Ground.phase }, { on := 9, ground := Ground.phase }], guard := none }) (v := ?_) rfl (by kernel_rfl) (by kernel_rfl) (by kernel_rfl) (fun _ _ _ h => h) (Or.inl ⟨by rfl, ?_⟩) (by assumption) ?_
  rotate_left
  focus ((intro w hSw; (try dsimp only at hSw); go_simp); (try with_reducible rfl))
  try simp only [Act.put, List.setIfInBounds_toArray, List.set_cons_zero, List.set_cons_succ]
  refine wpAnyH_done (by kernel_rfl) ?_ _
  clear hHeld
  clear k2 k3 HE
  obtain ⟨m0, m1, m2, m3⟩ := hP4.cells
  have hPN := hP4.put ⟨#[]⟩ ⟨#[]⟩
  obtain ⟨l0, l1, _, _⟩ := hPN.cells
  have HBN := Lib.hid ((hb.setCell (p := ⟨B0, 0, none⟩) HBW.out (.string ⟨#[]⟩)).setCell (p := ⟨B0, 1, none⟩) HBW.out (.string ⟨#[]⟩))
  clear hPN
  go_wp2_with fail
  (try simp only [Exit.inBlock, Exit.then])
  exact bodyPost_ret (v := .tuple #[.agg #[.string ⟨#[]⟩, .string ⟨#[]⟩], .int .i64 (ee)]) (by simp [results, Tryz.results33, go_sem, l0, l1]) rfl ⟨rfl, by first | exact HBN.out | exact hB0 ▸ HBN.out⟩

set_option maxRecDepth 100000 in
set_option maxHeartbeats 16000000 in
theorem pPar_ok {n : Nat} {c : Nat → ByteArray} {p : Nat → Int} {s : ByteArray} (hf : FitT n c) {m : Nat} (h : tabE n c p = 0) (h1 : s.size ≤ 65536) (hm : ParP s m) {i : Nat} (h2 : curI n c (s.extract (m + 1) s.size) = some i) (a : ByteArray) (hP : Ret 65 #[.string (s.extract 0 m), .int .i64 (p i)] (two a 0)) (W : World) (xa : Option Addr) (ca : Nat) (hG : Ground W) (hx : Rt W xa n c p) :
    Calls Tryz.prog 33 #[.slice xa n (n + ca), .string s] W (ValP (monE (s.extract (m + 1) s.size) a 0) W) := by
  obtain ⟨W0, hW0⟩ : ∃ V, V = W.alloc (.cells #[.string ⟨#[]⟩, .string ⟨#[]⟩] 35) := ⟨_, rfl⟩
  obtain ⟨B0, hB0⟩ : ∃ q, W.heap.size = q := ⟨_, rfl⟩
  have hP0 : PairAt W0 B0 35 ⟨#[]⟩ ⟨#[]⟩ := by rw [hW0, ← hB0]; exact PairAt.made _ _ _ _
  have hb0 : Below W.heap.size W W0 := by rw [hW0]; exact (Below.refl _ _).alloc (Nat.le_refl _) _
  have HP := Lib.hid hP0
  have HB := Lib.hid hb0
  have HBW := Lib.hid (show W.heap.size ≤ B0 by omega)
  have HCK := Lib.hid (pTab W0 xa n (n + ca) (by omega) c p (hx.belowAt hb0 (Nat.le_refl _)) hf)
  rw [h] at HCK
  have hi : ¬ (65536 : Int) < (s.size : Int) := by omega
  have HLI := Lib.hid (fun V => Tryz.strings_LastIndexByte s 32 (by omega) V)
  have hs := hm.size
  rw [last_good hm] at HLI
  have hw1 : IntKind.i64.wrap ((m : Int) + 1) = ((m + 1 : Nat) : Int) := by rw [IntWalk.i64_in _ (by omega)]; omega
  have HCO := Lib.hid (fun V => pCode (s.extract (m + 1) s.size) V (by rw [ByteArray.size_extract]; omega))
  rw [hm.code] at HCO
  have e1 : ¬ (m : Int) < 0 := by omega
  have e2 : ((m + 1 : Nat) : Int) ≤ (s.size : Int) := by omega
  have e3 : (0 : Int) ≤ ((m + 1 : Nat) : Int) := by omega
  have e4 : (((m + 1 : Nat) : Int)).toNat = m + 1 := by omega
  have e5 : (m : Int) ≤ (s.size : Int) := by omega
  have e6 : (0 : Int) ≤ (m : Int) := by omega
  have e7 : m ≤ s.size := by omega
  have hmax := hf.max
  have HFI := Lib.hid (fun V (hB : Below W.heap.size W V) => pFind V xa n (n + ca) c p (s.extract (m + 1) s.size) (hx.belowAt hB (Nat.le_refl _)) (by omega))
  have hii := idx_is h2
  have hcx : c i = s.extract (m + 1) s.size := of_decide_eq_true hii.2.1
  rw [h2] at HFI
  unfold curV at HFI
  dsimp only at HFI
  rw [hcx] at HFI
  obtain ⟨pi, hpi⟩ : ∃ y, p i = y := ⟨_, rfl⟩
  rw [hpi] at HFI hP
  have HPA := Lib.hid hP
  have HG := Lib.hid hG
  have hse : (s.extract 0 m).size ≤ 65536 := by rw [ByteArray.size_extract]; omega
  unfold Ret two at HPA
  clear h h1 h2 hm hs hmax hii hcx hpi hP hse
  have _ := hG
  unfold ValP monE
  clear hx hf hP0 hb0 hG
  go_enter Tryz.func33, Tryz.ntmps33
  go_upto_region 1 with fail
  rw [← hW0]
  try rw [hB0]
  clear hW0
  go_wp2_with fail
  refine HCK.out.mono ?_
  rintro _ w1 ⟨rfl, hB⟩
  have hP1 := HP.out.below hB
  have hb := HB.out.trans (hB.mono HB.out.size)
  clear hB HP HB
  go_wp2_with fail
  refine (HLI.out _).mono ?_
  rintro _ _ ⟨rfl, rfl⟩
  go_wp2_with fail
  refine (HCO.out _).mono ?_
  rintro _ _ ⟨rfl, rfl⟩
  go_wp2_with fail
  refine (HFI.out _ (by first | exact hb | exact hB0 ▸ hb)).mono ?_
  rintro _ w2 ⟨rfl, hB2⟩
  have hP2 := hP1.below hB2
  replace hb := hb.trans (hB2.mono hb.size)
  clear hB2 hP1 HFI HLI HCO
  obtain ⟨E1, hE1⟩ : ∃ q, w2.heap.size = q := ⟨_, rfl⟩
  obtain ⟨W3, hW3⟩ : ∃ V, V = w2.alloc (.cells #[.string (s.extract (m + 1) s.size), .int .i64 pi] 26) := ⟨_, rfl⟩
  have HE := Lib.hid (show TwoAt W3 E1 26 (.string (s.extract (m + 1) s.size)) (.int .i64 pi) by rw [hW3, ← hE1]; exact TwoAt.made _ _ _ _)
  have hb3 : Below w2.heap.size w2 W3 := by rw [hW3]; exact (Below.refl _ _).alloc (Nat.le_refl _) _
  have hP3 := hP2.below hb3
  have hBE : B0 ≠ E1 := by have := hP2.lt; omega
  replace hb := hb.trans (hb3.mono hb.size)
  go_upto_region 9 with fail
  rw [← hW3]
  try rw [hE1]
  clear hW3 hb3 hP2 hE1
  obtain ⟨k2, k3, _, _⟩ := HE.out.cells
  go_wp2_with fail
  refine wp_region_held_drew (S := fun w' => w'.cell? ⟨E1, 1, none⟩ = some (.int .i64 pi)) (by kernel_rfl) (by (try dsimp only); first | exact k3 | exact g1) (fun hHeld => ?_)
  refine wpAnyH_take (i := 0) (oi := { dst := some 45, op := Op.move (Operand.tmp 1), type := 9, pos := "money.go:123", after := #[], guard := none }) (v := ?_) rfl (by kernel_rfl) (by kernel_rfl) (by kernel_rfl) (fun _ _ _ h => h) (Or.inl ⟨by rfl, ?_⟩) (by assumption) ?_
  rotate_left
  focus ((intro w hSw; (try dsimp only at hSw); go_simp); (try with_reducible rfl))
  try simp only [Act.put, List.setIfInBounds_toArray, List.set_cons_zero, List.set_cons_succ]
  refine wpAnyH_take (i := 1) (oi := { dst := some 46, op := Op.move (Operand.tmp 6), type := 3, pos := "money.go:123", after := #[], guard := none }) (v := ?_) rfl (by kernel_rfl) (by kernel_rfl) (by kernel_rfl) (fun _ _ _ h => h) (Or.inl ⟨by rfl, ?_⟩) (by assumption) ?_
  rotate_left
  focus ((intro w hSw; (try dsimp only at hSw); go_simp); (try with_reducible rfl))
  try simp only [Act.put, List.setIfInBounds_toArray, List.set_cons_zero, List.set_cons_succ]
  refine wpAnyH_take (i := 3) (oi := { dst := some 48, op := Op.fieldAddr 26 (Operand.tmp 7) 1, type := 0, pos := "money.go:123", after := #[], guard := none }) (v := ?_) rfl (by kernel_rfl) (by kernel_rfl) (by kernel_rfl) (fun _ _ _ h => h) (Or.inl ⟨by rfl, ?_⟩) (by assumption) ?_
  rotate_left
  focus ((intro w hSw; (try dsimp only at hSw); go_simp); (try with_reducible rfl))
  try simp only [Act.put, List.setIfInBounds_toArray, List.set_cons_zero, List.set_cons_succ]
  refine wpAnyH_take (i := 4) (oi := { dst := some 49, op := Op.load 3 (Operand.tmp 48), type := 3, pos := "money.go:123", after := #[{ on := 3, ground := Ground.data }], guard := none }) (v := ?_) rfl (by kernel_rfl) (by kernel_rfl) (by kernel_rfl) (fun _ _ _ h => h) (Or.inl ⟨by rfl, ?_⟩) (by assumption) ?_
  rotate_left
  focus ((intro w hSw; (try dsimp only at hSw); go_simp); (try with_reducible rfl))
  try simp only [Act.put, List.setIfInBounds_toArray, List.set_cons_zero, List.set_cons_succ]
  refine wpAnyH_ready (rs := [2]) (by kernel_rfl) (by simp) ?_
  refine AllReadyH.cons (o := { dst := some 47, op := Op.slice 9 (Operand.tmp 45) none (some (Operand.tmp 46)) none, type := 9, pos := "money.go:123", after := #[{ on := 0, ground := Ground.data }, { on := 1, ground := Ground.data }], guard := none }) rfl (fun K hK => ?_) AllReadyH.nil
  clear hHeld
  go_simp
  refine hK.out _ _ (by (try dsimp only); first | exact k3 | exact g1) (fun hHeld => ?_)
  clear hK K
  try simp only [Act.put, List.setIfInBounds_toArray, List.set_cons_zero, List.set_cons_succ]
  refine wpAnyH_ready (rs := [5]) (by kernel_rfl) (by simp) ?_
  refine AllReadyH.cons (o := { dst := some 50, op := Op.call { callee := Callee.value (Operand.func 65), args := #[Operand.tmp 47, Operand.tmp 49], argTypes := #[9, 3] }, type := 83, pos := "money.go:123", after := #[{ on := 2, ground := Ground.data }, { on := 4, ground := Ground.data }], guard := none }) rfl (fun K hK => ?_) AllReadyH.nil
  clear hHeld
  go_simp
  refine (HPA.out _ (HG.out.below (by first | exact below_drew hb | exact hB0 ▸ below_drew hb))).mono ?_
  rintro _ w4 ⟨rfl, hB4⟩
  have HE4 := Lib.hid (show TwoAt w4 E1 26 (.string (s.extract (m + 1) s.size)) (.int .i64 pi) from TwoAt.below (w := W3.drew) HE.out hB4)
  have hP4 : PairAt w4 B0 35 ⟨#[]⟩ ⟨#[]⟩ := PairAt.below (w := W3.drew) hP3 hB4
  have hb4 := (below_drew hb).trans (hB4.mono (below_drew hb).size)
  clear hB4 hb hP3
  have hb := hb4
  clear hb4
  obtain ⟨g0, g1, _, _⟩ := HE4.out.cells
  go_wp2_with fail
  refine hK.out _ _ (by (try dsimp only); first | exact k3 | exact g1) (fun hHeld => ?_)
  clear hK K
  try simp only [Act.put, List.setIfInBounds_toArray, List.set_cons_zero, List.set_cons_succ]
  refine wpAnyH_take (i := 6) (oi := { dst := some 44, op := Op.move (Operand.tmp 50), type := 83, pos := "money.go:123", after := #[{ on := 5, ground := Ground.data }], guard := none }) (v := ?_) rfl (by kernel_rfl) (by kernel_rfl) (by kernel_rfl) (fun _ _ _ h => h) (Or.inl ⟨by rfl, ?_⟩) (by assumption) ?_
  rotate_left
  focus ((intro w hSw; (try dsimp only at hSw); go_simp); (try with_reducible rfl))
  try simp only [Act.put, List.setIfInBounds_toArray, List.set_cons_zero, List.set_cons_succ]
  refine wpAnyH_take (i := 7) (oi := { dst := some 51, op := Op.extract (Operand.tmp 44) 0, type := 33, pos := "money.go:123", after := #[{ on := 6, ground := Ground.data }], guard := none }) (v := ?_) rfl (by kernel_rfl) (by kernel_rfl) (by kernel_rfl) (fun _ _ _ h => h) (Or.inl ⟨by rfl, ?_⟩) (by assumption) ?_
  rotate_left
  focus ((intro w hSw; (try dsimp only at hSw); go_simp); (try with_reducible rfl))
  try simp only [Act.put, List.setIfInBounds_toArray, List.set_cons_zero, List.set_cons_succ]
  refine wpAnyH_take (i := 8) (oi := { dst := some 52, op := Op.extract (Operand.tmp 44) 1, type := 29, pos := "money.go:123", after := #[{ on := 6, ground := Ground.data }, { on := 9, ground := Ground.gcOnly Departure.lateStores }], guard := none }) (v := ?_) rfl (by kernel_rfl) (by kernel_rfl) (by kernel_rfl) (fun _ _ _ h => h) (Or.inl ⟨by rfl, ?_⟩) (by assumption) ?_
  rotate_left
  focus ((intro w hSw; (try dsimp only at hSw); go_simp); (try with_reducible rfl))
  try simp only [Act.put, List.setIfInBounds_toArray, List.set_cons_zero, List.set_cons_succ]
  refine wpAnyH_take (i := 9) (oi := { dst := some 9, op := Op.assign (Operand.tmp 51), type := 33, pos := "money.go:123", after := #[{ on := 7, ground := Ground.data }, { on := 5, ground := Ground.chain }, { on := 0, ground := Ground.phase }, { on := 1, ground := Ground.phase }, { on := 2, ground := Ground.phase }, { on := 3, ground := Ground.phase }, { on := 4, ground := Ground.phase }, { on := 5, ground := Ground.phase }, { on := 6, ground := Ground.phase }, { on := 7, ground := Ground.phase }, { on := 8, ground := Ground.textOnly Departure.lateStores }], guard := none }) (v := ?_) rfl (by kernel_rfl) (by kernel_rfl) (by kernel_rfl) (fun _ _ _ h => h) (Or.inl ⟨by rfl, ?_⟩) (by assumption) ?_
  rotate_left
  focus ((intro w hSw; (try dsimp only at hSw); go_simp); (try with_reducible rfl))
  try simp only [Act.put, List.setIfInBounds_toArray, List.set_cons_zero, List.set_cons_succ]
  refine wpAnyH_take (i := 10) (oi := { dst := some 10, op := Op.assign (Operand.tmp 52), type := 29, pos := "money.go:123", after := #[{ on := 8, ground := Ground.data }, { on := 9, ground := Ground.chain }, { on := 0, ground := Ground.phase }, { on := 1, ground := Ground.phase }, { on := 2, ground := Ground.phase }, { on := 3, ground := Ground.phase }, { on := 4, ground := Ground.phase }, { on := 5, ground := Ground.phase }, { on := 6, ground := Ground.phase }, { on := 7, ground := Ground.phase }, { on := 8, ground := Ground.phase }, { on := 9, ground := Ground.phase }], guard := none }) (v := ?_) rfl (by kernel_rfl) (by kernel_rfl) (by kernel_rfl) (fun _ _ _ h => h) (Or.inl ⟨by rfl, ?_⟩) (by assumption) ?_
  rotate_left
  focus ((intro w hSw; (try dsimp only at hSw); go_simp); (try with_reducible rfl))
  try simp only [Act.put, List.setIfInBounds_toArray, List.set_cons_zero, List.set_cons_succ]
  refine wpAnyH_done (by kernel_rfl) ?_ _
  clear hHeld
  clear k2 k3 HE
  obtain ⟨m0, m1, m2, m3⟩ := hP4.cells
  have hPN := hP4.put (s.extract (m + 1) s.size) a
  obtain ⟨l0, l1, _, _⟩ := hPN.cells
  have HBN := Lib.hid ((hb.setCell (p := ⟨B0, 0, none⟩) HBW.out (.string (s.extract (m + 1) s.size))).setCell (p := ⟨B0, 1, none⟩) HBW.out (.string a))
  clear hPN
  go_wp2_with fail
  (try simp only [Exit.inBlock, Exit.then])
  exact bodyPost_ret (v := .tuple #[.agg #[.string (s.extract (m + 1) s.size), .string a], .int .i64 (0)]) (by simp [results, Tryz.results33, go_sem, l0, l1]) rfl ⟨rfl, by first | exact HBN.out | exact hB0 ▸ HBN.out⟩


end Go.Proofs.YtahnkmkmoalbhaaGreatDoor

/- Layer 5: Text and Parse of both sides return the same; the laws' awake. -/
namespace Go.Proofs.YtahnkmkmoalbhaaGreatDoor
open Go.RowKit

theorem text_both {n : Nat} {c : Nat → ByteArray} {p : Nat → Int} {x z : ByteArray} (hf : FitT n c) (hx : x.size ≤ 8) (hz : z.size ≤ 13) :
    ∃ tx e, OnT 31 n c p x z (strE tx e) ∧ OnT 32 n c p x z (strE tx e) := by
  by_cases h : tabE n c p = 0
  · cases h1 : curI n c x with
    | none => exact ⟨_, _, fun W xa ca hG hr => pText_cur hf h h1 W xa ca hG hr, fun W xa ca _ hr => rText_cur W xa n (n + ca) c p x z hr hf h h1⟩
    | some i =>
      cases h2 : isCan z with
      | false => exact ⟨_, _, fun W xa ca hG hr => pText_can hf (by omega) h h1 h2 W xa ca hG hr, fun W xa ca _ hr => rText_can W xa n (n + ca) c p x z hr hf (by omega) h h1 h2⟩
      | true =>
        have hg := tabE_zero h
        have hi := (idx_is h1).1
        have hlo := hg.low i hi
        have hhi := hg.high i hi
        have htx := txt_size (z := vS z) (p i).toNat (Cap.of hz rfl)
        refine ⟨_, _, fun W xa ca hG hr => pText_ok hf (by omega) (by omega) h h1 h2 W xa ca hG hr, fun W xa ca hG hr => ?_⟩
        refine rText_ok W hG xa n (n + ca) c p x z hr hf (by omega) h h1 h2 (txt (vS z) (p i).toNat) (by omega) (by omega) fun V _ => ?_
        have := kTextOf_any (s := z) (z := vS z) (p i).toNat V (by omega) rfl (by omega)
        rw [show (((p i).toNat : Nat) : Int) = p i by omega] at this
        exact this
  · exact ⟨_, _, fun W xa ca hG hr => pText_tab hf h W xa ca hG hr, fun W xa ca _ hr => rText_tab W xa n (n + ca) c p x z hr hf h⟩

theorem parse_both {n : Nat} {c : Nat → ByteArray} {p : Nat → Int} {s : ByteArray} (hf : FitT n c) (hs : s.size ≤ 40 ∨ 65536 < s.size) :
    ∃ cc aa e, OnP 33 n c p s (monE cc aa e) ∧ OnP 34 n c p s (monE cc aa e) := by
  by_cases h : tabE n c p = 0
  · by_cases h1 : 65536 < s.size
    · exact ⟨_, _, _, fun W xa ca hG hr => pPar_long hf h h1 W xa ca hG hr, fun W xa ca _ hr => rPar_long W xa n (n + ca) c p s hr hf h h1⟩
    · have h1' : s.size ≤ 65536 := by omega
      rcases parP_cases s with ⟨m, hm⟩ | hno
      · have hsz := hm.size
        cases h2 : curI n c (s.extract (m + 1) s.size) with
        | none => exact ⟨_, _, _, fun W xa ca hG hr => pPar_none hf h h1' hm h2 W xa ca hG hr, fun W xa ca _ hr => rPar_none W xa n (n + ca) c p s hr hf h h1' hm.size hm.space hm.code h2⟩
        | some i =>
          have hci : c i = s.extract (m + 1) s.size := of_decide_eq_true (idx_is h2).2.1
          obtain ⟨t, e, g1, g2⟩ := parse_same (s := s.extract 0 m) (p i) (Or.inl (by rw [ByteArray.size_extract]; omega))
          by_cases he : e = 0
          · subst he
            refine ⟨_, _, _, fun W xa ca hG hr => pPar_ok hf h h1' hm h2 t g1 W xa ca hG hr, fun W xa ca hG hr => ?_⟩
            rw [← hci]
            exact rPar_ok W hG xa n (n + ca) c p s hr hf h h1' hm.size hm.space hm.code h2 t g2
          · exact ⟨_, _, _, fun W xa ca hG hr => pPar_err hf h h1' hm h2 t e he g1 W xa ca hG hr, fun W xa ca hG hr => rPar_bad W hG xa n (n + ca) c p s hr hf h h1' hm.size hm.space hm.code h2 t e he g2⟩
      · have hpr : OnP 33 n c p s (monE ⟨#[]⟩ ⟨#[]⟩ 3) := fun W xa ca hG hr => by
          rcases last_bad hno with e | ⟨k, hk, e, hc⟩
          · exact pPar_no hf h h1' e W xa ca hG hr
          · exact pPar_code hf h h1' hk e hc W xa ca hG hr
        refine ⟨_, _, _, hpr, fun W xa ca _ hr => ?_⟩
        by_cases h4 : s.size < 4
        · exact rPar_few W xa n (n + ca) c p s hr hf h h4
        · have hm : s.size = (s.size - 4) + 4 := by omega
          by_cases hb : s[s.size - 4]'(by omega) = 32
          · cases hc : codeS (s.extract (s.size - 4 + 1) s.size) with
            | true => exact absurd ⟨hm, hb, hc⟩ (hno _)
            | false => exact rPar_code W xa n (n + ca) c p s hr hf h h1' hm hb hc
          · exact rPar_gap W xa n (n + ca) c p s hr hf h h1' hm hb
  · exact ⟨_, _, _, fun W xa ca hG hr => pPar_tab hf h W xa ca hG hr, fun W xa ca _ hr => rPar_tab W xa n (n + ca) c p s hr hf h⟩

/-! ### awake -/
def sUSD : ByteArray := ⟨#[85, 83, 68]⟩
def sJPY : ByteArray := ⟨#[74, 80, 89]⟩
def sEUR : ByteArray := ⟨#[69, 85, 82]⟩
def exC (i : Nat) : ByteArray := if i = 0 then sUSD else sJPY
def exP (i : Nat) : Int := if i = 0 then 2 else 0
theorem Rt.two (w : World) (x y : ByteArray) (p q : Int) (ty : TypeId) : Rt (w.alloc (.cells #[.string x, .int .i64 p, .string y, .int .i64 q] ty)) (some ⟨w.heap.size, 0, none⟩) 2 (fun i => if i = 0 then x else y) (fun i => if i = 0 then p else q) :=
  ⟨fun _ => ⟨w.heap.size, 0, rfl, by rw [World.size_alloc]; omega, fun i hi => by
    rw [cell_of_row _ _ _ _ _ _ (heap_alloc_new _ _)]
    rcases (show i = 0 ∨ i = 1 ∨ i = 2 ∨ i = 3 by omega) with rfl | rfl | rfl | rfl <;> rfl⟩⟩
theorem Rf.two (w : World) (x y p q : ByteArray) (ty : TypeId) : Rf (w.alloc (.cells #[.string x, .string p, .string y, .string q] ty)) (some ⟨w.heap.size, 0, none⟩) 2 (fun i => if i = 0 then x else y) (fun i => if i = 0 then p else q) :=
  ⟨fun _ => ⟨w.heap.size, 0, rfl, by rw [World.size_alloc]; omega, fun i hi => by
    rw [cell_of_row _ _ _ _ _ _ (heap_alloc_new _ _)]
    rcases (show i = 0 ∨ i = 1 ∨ i = 2 ∨ i = 3 by omega) with rfl | rfl | rfl | rfl <;> rfl⟩⟩
set_option maxRecDepth 100000 in
set_option maxHeartbeats 4000000 in
theorem aExample (W : World) : Calls Tryz.prog 45 #[] W fun e w' => ∃ b, e = .returned (.slice (some ⟨b, 0, none⟩) 2 2) ∧ Rt w' (some ⟨b, 0, none⟩) 2 exC exP ∧ Below W.heap.size W w' := by
  go_enter Tryz.func45, Tryz.ntmps45
  go_wp2_with fail
  go_ret
  exact ⟨W.heap.size, rfl, Rt.two _ _ _ _ _ _, (Below.refl _ _).alloc (Nat.le_refl _) _⟩
theorem ex_fit : FitT 2 exC := ⟨by omega, fun i _ => by unfold exC; split <;> decide⟩
theorem ex_tab : tabE 2 exC exP = 0 := by decide +kernel
theorem aw_text1 : OnT 31 2 exC exP sUSD ⟨#[45, 49, 50, 51, 52]⟩ (strE ⟨#[45, 49, 50, 46, 51, 52, 32, 85, 83, 68]⟩ 0) := fun W xa ca hG hr => by
  have := pText_ok (x := sUSD) (z := ⟨#[45, 49, 50, 51, 52]⟩) ex_fit (by decide) (by decide) (i := 0) ex_tab (by decide +kernel) (by decide +kernel) W xa ca hG hr
  rw [show txt (vS ⟨#[45, 49, 50, 51, 52]⟩) (exP 0).toNat ++ ⟨#[32]⟩ ++ sUSD = ⟨#[45, 49, 50, 46, 51, 52, 32, 85, 83, 68]⟩ by decide +kernel] at this
  exact this
theorem aw_text2 : OnT 31 2 exC exP sJPY ⟨#[53]⟩ (strE ⟨#[53, 32, 74, 80, 89]⟩ 0) := fun W xa ca hG hr => by
  have := pText_ok (x := sJPY) (z := ⟨#[53]⟩) ex_fit (by decide) (by decide) (i := 1) ex_tab (by decide +kernel) (by decide +kernel) W xa ca hG hr
  rw [show txt (vS ⟨#[53]⟩) (exP 1).toNat ++ ⟨#[32]⟩ ++ sJPY = ⟨#[53, 32, 74, 80, 89]⟩ by decide +kernel] at this
  exact this
def sHalf : ByteArray := ⟨#[48, 46, 53, 48, 48, 32, 85, 83, 68]⟩
def sFine : ByteArray := ⟨#[48, 46, 48, 48, 53, 32, 85, 83, 68]⟩
theorem aw_parse1 : OnP 33 2 exC exP sHalf (monE sUSD ⟨#[53, 48]⟩ 0) := fun W xa ca hG hr => by
  have hm : ParP sHalf 5 := ⟨by decide, by decide +kernel, by decide +kernel⟩
  have := pPar_ok (s := sHalf) ex_fit ex_tab (by decide) hm (i := 0) (by decide +kernel) ⟨#[53, 48]⟩ (by
    have := dParse_ok (s := sHalf.extract 0 5) (p := 2) (m := 50) (by decide +kernel) (by decide +kernel) (by decide) (by decide +kernel)
    rw [show cS 50 = ⟨#[53, 48]⟩ by decide +kernel] at this
    exact this) W xa ca hG hr
  rw [show sHalf.extract (5 + 1) sHalf.size = sUSD by decide +kernel] at this
  exact this
theorem aw_parse2 : OnP 33 2 exC exP sFine (monE ⟨#[]⟩ ⟨#[]⟩ 22) := fun W xa ca hG hr => by
  have hm : ParP sFine 5 := ⟨by decide, by decide +kernel, by decide +kernel⟩
  exact pPar_err (s := sFine) ex_fit ex_tab (by decide) hm (i := 0) (by decide +kernel) ⟨#[]⟩ 22 (by decide) (dParse_inexact (s := sFine.extract 0 5) (p := 2) (by decide +kernel) (by decide +kernel) (by decide) (by decide +kernel)) W xa ca hG hr
def two2 (x y : ByteArray) (i : Nat) : ByteArray := if i = 0 then x else y
theorem two_shrt {x y p q : ByteArray} (h : x.size ≤ 8 ∧ y.size ≤ 8 ∧ p.size ≤ 20 ∧ q.size ≤ 20) : Shrt 2 (two2 x y) (two2 p q) := ⟨by omega, fun i _ => by unfold two2; split <;> omega, fun i _ => by unfold two2; split <;> omega⟩
theorem aw_sum : On2 29 2 (two2 sEUR sUSD) (two2 ⟨#[53]⟩ ⟨#[45, 51]⟩) 2 (two2 sJPY sUSD) (two2 ⟨#[55]⟩ ⟨#[51]⟩) (BagP [(sEUR, 5), (sJPY, 7)] 0) := by
  have := p_sum (two_shrt (x := sEUR) (y := sUSD) (p := ⟨#[53]⟩) (q := ⟨#[45, 51]⟩) (by decide)) (two_shrt (x := sJPY) (y := sUSD) (p := ⟨#[55]⟩) (q := ⟨#[51]⟩) (by decide))
  rw [show sumO 2 (two2 sEUR sUSD) (two2 ⟨#[53]⟩ ⟨#[45, 51]⟩) 2 (two2 sJPY sUSD) (two2 ⟨#[55]⟩ ⟨#[51]⟩) = ([(sEUR, 5), (sJPY, 7)], 0) by decide +kernel] at this
  exact this

end Go.Proofs.YtahnkmkmoalbhaaGreatDoor

/- Layer 5: the laws over the program's contracts: their ways joined. -/
namespace Go.Proofs.YtahnkmkmoalbhaaGreatDoor
open Go.RowKit

/-- all of the program's contracts that the laws of this seat ask -/
structure MoneyAll : Prop where
  ok : MoneyOk
  put : ∀ {n : Nat} {u v : Nat → ByteArray} {c z : ByteArray}, Shrt n u v → c.size ≤ 8 → z.size ≤ 13 → OnM 20 n u v c z (BagP (putO n u v c z).1 (putO n u v c z).2)
  amt : ∀ {n : Nat} {u v : Nat → ByteArray} (c : ByteArray), Shrt n u v → OnC 26 n u v c (ValP (.string (amtS n u v c)))
theorem amr_any (haw : ∀ W, Ground W → Calls Tryz.prog 13 #[] W (ValP (.bool true) W)) (xa : Option Addr) (n ca : Nat) (c : Nat → ByteArray) (p : Nat → Int) (x z s : ByteArray) (w : World) (hG : Ground w) (hx : Rt w xa n c p) (hn : n ≤ 9223372036854775807) (hca : n ≤ ca)
    (htx : greatTb n c = false → wideB x z = false → ∃ tx e, OnT 31 n c p x z (strE tx e) ∧ OnT 32 n c p x z (strE tx e))
    (hpa : greatTb n c = false → s.size ≤ 40 ∨ 65536 < s.size → ∃ cc aa e, OnP 33 n c p s (monE cc aa e) ∧ OnP 34 n c p s (monE cc aa e)) :
    Calls Tryz.prog 6 #[.slice xa n ca, .agg #[.string x, .string z], .string s] w (ValP (.bool true) w) := by
  obtain ⟨ca, rfl⟩ : ∃ k, ca = n + k := ⟨ca - n, by omega⟩
  cases hg : greatTb n c with
  | true => exact amr_great haw xa n ca c p x z s w hG hx hn hg
  | false =>
    cases hl : wideB x z with
    | true => exact amr_long haw xa n ca c p x z s w hG hx hn hg hl
    | false =>
      by_cases h1 : s.size ≤ 40
      · obtain ⟨tx, e1, t1, t2⟩ := htx hg hl
        obtain ⟨cc, aa, e2, p1, p2⟩ := hpa hg (Or.inl h1)
        exact amr_ok1 haw xa n ca c p x z s w hG hx hn hg hl h1 tx e1 cc aa e2 t1 t2 p1 p2
      · by_cases h2 : s.size ≤ 65536
        · exact amr_mid haw xa n ca c p x z s w hG hx hn hg hl (by omega) h2
        · obtain ⟨tx, e1, t1, t2⟩ := htx hg hl
          obtain ⟨cc, aa, e2, p1, p2⟩ := hpa hg (Or.inr (by omega))
          exact amr_ok2 haw xa n ca c p x z s w hG hx hn hg hl (by omega) tx e1 cc aa e2 t1 t2 p1 p2

end Go.Proofs.YtahnkmkmoalbhaaGreatDoor

/- Layer 5: the laws' awake; all of the program's contracts. -/
namespace Go.Proofs.YtahnkmkmoalbhaaGreatDoor
open Go.RowKit

set_option maxRecDepth 100000 in
set_option maxHeartbeats 16000000 in
theorem mawake (w : World) (hG : Ground w) : Calls Tryz.prog 13 #[] w (ValP (.bool true) w) := by
  have HG := Lib.hid hG
  have T1 := Lib.hid (fun W (xa : Option Addr) => aw_text1 W xa 0)
  have T2 := Lib.hid (fun W (xa : Option Addr) => aw_text2 W xa 0)
  have P1 := Lib.hid (fun W (xa : Option Addr) => aw_parse1 W xa 0)
  have P2 := Lib.hid (fun W (xa : Option Addr) => aw_parse2 W xa 0)
  have S1 := Lib.hid (fun W (xa ya : Option Addr) => aw_sum W xa ya 0 0)
  have EQ := Lib.hid (fun W xa ya c d hx hy => eqBag [(sEUR, 5), (sJPY, 7)] (by decide) W xa ya c d hx hy)
  have hmax4 : ∀ W : World, (Builtin.max_ #[29, 29, 29, 29] 29 #[.int .i64 0, .int .i64 0, .int .i64 0, .int .i64 0]).run Tryz.prog W = .ok (.int .i64 0) W := fun W => by simp [Builtin.max_, Builtin.max2]
  unfold ValP strE at T1 T2
  unfold ValP monE at P1 P2
  unfold BagP at S1
  unfold ValP at EQ ⊢
  unfold sUSD at P1
  unfold sUSD at T1
  unfold sJPY at T2
  unfold sHalf at P1
  unfold sFine at P2
  clear hG
  go_enter Tryz.func13, Tryz.ntmps13
  go_wp2_with fail
  refine (aExample _).mono ?_
  rintro _ w1 ⟨b1, rfl, hr, hb⟩
  go_wp2_with fail
  refine (T1.out w1 _ (HG.out.below hb) hr).mono ?_
  rintro _ w2 ⟨rfl, hB⟩
  replace hb := hb.trans (hB.mono hb.size)
  clear hB hr
  go_wp2_with fail
  refine (aExample _).mono ?_
  rintro _ w3 ⟨b2, rfl, hr, hB⟩
  replace hb := hb.trans (hB.mono hb.size)
  clear hB
  go_wp2_with fail
  refine (T2.out w3 _ (HG.out.below hb) hr).mono ?_
  rintro _ w4 ⟨rfl, hB⟩
  replace hb := hb.trans (hB.mono hb.size)
  clear hB hr
  go_wp2_with fail
  refine (aExample _).mono ?_
  rintro _ w5 ⟨b3, rfl, hr, hB⟩
  replace hb := hb.trans (hB.mono hb.size)
  clear hB
  go_wp2_with fail
  refine (P1.out w5 _ (HG.out.below hb) hr).mono ?_
  rintro _ w6 ⟨rfl, hB⟩
  replace hb := hb.trans (hB.mono hb.size)
  clear hB hr
  obtain ⟨E1, hE1⟩ : ∃ s, w6.heap.size = s := ⟨_, rfl⟩
  obtain ⟨X1, hX1⟩ : ∃ V, V = w6.alloc (.cells #[.string ⟨#[85, 83, 68]⟩, .string ⟨#[53, 48]⟩] 35) := ⟨_, rfl⟩
  have hA : PairAt X1 E1 35 ⟨#[85, 83, 68]⟩ ⟨#[53, 48]⟩ := by rw [hX1, ← hE1]; exact PairAt.made _ _ _ _
  replace hb : Below w.heap.size w X1 := by rw [hX1]; exact hb.alloc hb.size _
  go_upto_region 4 with fail
  rw [← hX1]
  try rw [hE1]
  clear hX1 hE1
  go_wp2_with fail
  refine (aExample _).mono ?_
  rintro _ w7 ⟨b4, rfl, hr, hB⟩
  replace hb := hb.trans (hB.mono hb.size)
  replace hA := hA.below hB
  clear hB
  go_wp2_with fail
  refine (P2.out w7 _ (HG.out.below hb) hr).mono ?_
  rintro _ w8 ⟨rfl, hB⟩
  replace hb := hb.trans (hB.mono hb.size)
  replace hA := hA.below hB
  clear hB hr
  obtain ⟨E2, hE2⟩ : ∃ s, w8.heap.size = s := ⟨_, rfl⟩
  obtain ⟨X2, hX2⟩ : ∃ V, V = w8.alloc (.cells #[.string ⟨#[]⟩, .string ⟨#[]⟩] 35) := ⟨_, rfl⟩
  have hC : PairAt X2 E2 35 ⟨#[]⟩ ⟨#[]⟩ := by rw [hX2, ← hE2]; exact PairAt.made _ _ _ _
  replace hA : PairAt X2 E1 35 ⟨#[85, 83, 68]⟩ ⟨#[53, 48]⟩ := by rw [hX2]; exact hA.alloc _
  replace hb : Below w.heap.size w X2 := by rw [hX2]; exact hb.alloc hb.size _
  go_upto_region 5 with fail
  rw [← hX2]
  try rw [hE2]
  clear hX2 hE2
  obtain ⟨E3, hE3⟩ : ∃ s, s = X2.heap.size := ⟨_, rfl⟩
  obtain ⟨X3, hX3⟩ : ∃ V, V = X2.alloc (.cells #[.string sEUR, .string ⟨#[53]⟩, .string sUSD, .string ⟨#[45, 51]⟩] 35) := ⟨_, rfl⟩
  obtain ⟨E4, hE4⟩ : ∃ s, s = X3.heap.size := ⟨_, rfl⟩
  obtain ⟨X4, hX4⟩ : ∃ V, V = X3.alloc (.cells #[.string sJPY, .string ⟨#[55]⟩, .string sUSD, .string ⟨#[51]⟩] 35) := ⟨_, rfl⟩
  have hra : Rf X4 (some ⟨E3, 0, none⟩) 2 (two2 sEUR sUSD) (two2 ⟨#[53]⟩ ⟨#[45, 51]⟩) := by rw [hX4]; exact Rc.alloc (by rw [hX3, hE3]; exact Rf.two _ _ _ _ _ _) _
  have hrb : Rf X4 (some ⟨E4, 0, none⟩) 2 (two2 sJPY sUSD) (two2 ⟨#[55]⟩ ⟨#[51]⟩) := by rw [hX4, hE4]; exact Rf.two _ _ _ _ _ _
  replace hb : Below w.heap.size w X4 := by
    rw [hX4, hX3]
    exact (hb.alloc hb.size _).alloc (by rw [World.size_alloc]; have := hb.size; omega) _
  replace hA : PairAt X4 E1 35 ⟨#[85, 83, 68]⟩ ⟨#[53, 48]⟩ := by rw [hX4, hX3]; exact (hA.alloc _).alloc _
  replace hC : PairAt X4 E2 35 ⟨#[]⟩ ⟨#[]⟩ := by rw [hX4, hX3]; exact (hC.alloc _).alloc _
  unfold sEUR sUSD at hX3
  unfold sJPY sUSD at hX4
  have hE : X2.heap.size + 1 = E4 := by rw [hE4, hX3, World.size_alloc]
  clear hE4
  go_wp2_with fail
  rw [← hX3, ← hX4, ← hE3]
  clear hX3 hX4 hE hE3
  refine Calls.mono (S1.out X4 _ _ (HG.out.below hb) hra hrb) ?_
  rintro _ w9 ⟨za, cz, rfl, hs, hB⟩
  replace hb := hb.trans (hB.mono hb.size)
  replace hA := hA.below hB
  replace hC := hC.below hB
  clear hB hra hrb T1 T2 P1 P2 S1
  obtain ⟨a0, a1, _, _⟩ := hA.cells
  obtain ⟨c0, c1, _, _⟩ := hC.cells
  have g1 := fun X Y W => money_guarde X Y ⟨#[]⟩ ⟨#[]⟩ ⟨#[]⟩ ⟨#[]⟩ W
  have g2 := money_same ⟨#[]⟩ ⟨#[]⟩
  have g3 := fun X Y W => money_guarde X Y ⟨#[85, 83, 68]⟩ ⟨#[53, 48]⟩ ⟨#[85, 83, 68]⟩ ⟨#[53, 48]⟩ W
  have g4 := money_same ⟨#[85, 83, 68]⟩ ⟨#[53, 48]⟩
  have hl : List.length [(sEUR, (5 : Int)), (sJPY, 7)] = 2 := rfl
  rw [hl] at EQ ⊢
  have HS := Lib.hid hs
  have HB := Lib.hid hb
  have HEL := Lib.hid (fun (W : World) => (by
    have h := Rf.two W ⟨#[69, 85, 82]⟩ ⟨#[74, 80, 89]⟩ ⟨#[53]⟩ ⟨#[55]⟩ 35
    show Rf _ _ 2 _ _
    refine Rc.congr h fun i hi => ?_
    rcases (show i = 0 ∨ i = 1 ∨ i = 2 ∨ i = 3 by omega) with rfl | rfl | rfl | rfl <;> exact congrArg Value.string (by decide +kernel) : RB (W.alloc (.cells #[.string ⟨#[69, 85, 82]⟩, .string ⟨#[53]⟩, .string ⟨#[74, 80, 89]⟩, .string ⟨#[55]⟩] 35)) (some ⟨W.heap.size, 0, none⟩) [(sEUR, 5), (sJPY, 7)]))
  clear hs hb hA hC hl
  go_wp2_with fail
  refine (EQ.out _ _ _ _ _ (Rc.alloc HS.out _) (HEL.out w9)).mono ?_
  rintro _ w10 ⟨rfl, hB⟩
  go_wp2_with fail
  go_ret
  exact ⟨rfl, (HB.out.alloc HB.out.size _).trans (hB.mono (by rw [World.size_alloc]; have := HB.out.size; omega))⟩

theorem amr_all (xa : Option Addr) (n ca : Nat) (c : Nat → ByteArray) (p : Nat → Int) (x z s : ByteArray) (w : World) (hG : Ground w) (hx : Rt w xa n c p) (hn : n ≤ 9223372036854775807) (hca : n ≤ ca) :
    Calls Tryz.prog 6 #[.slice xa n ca, .agg #[.string x, .string z], .string s] w (ValP (.bool true) w) :=
  amr_any mawake xa n ca c p x z s w hG hx hn hca
    (fun hg hl => by
      have h1 := greatTb_false hg
      unfold wideB longA at hl
      rw [Bool.or_eq_false_iff] at hl
      have h2 := of_decide_eq_false hl.1
      have h3 := of_decide_eq_false hl.2
      exact text_both ⟨by omega, fun i hi => by have := h1.2 i hi; omega⟩ (by omega) (by omega))
    (fun hg hs => by
      have h1 := greatTb_false hg
      exact parse_both ⟨by omega, fun i hi => by have := h1.2 i hi; omega⟩ hs)
end Go.Proofs.YtahnkmkmoalbhaaGreatDoor
