/- Layer 5, the program: Text, Parse: the walks. -/
import Derived.Test.YtahnkmkmoalbhaaGreatDoorZAF
import Derived.Test.YtahnkmkmoalbhaaGreatDoorZAG
import Derived.Test.YtahnkmkmoalbhaaGreatDoorZAM
import Derived.Test.YtahnkmkmoalbhaaGreatDoorZAN
import Derived.Deep.DeepCutAuto
import Derived.Deep.RegionWith
import Derived.Laws.NewBlocks
namespace Go.Proofs.YtahnkmkmoalbhaaGreatDoor
open Go.RowKit Go.Shelf

set_option maxRecDepth 100000 in
set_option maxHeartbeats 16000000 in
theorem pText_tab {n : Nat} {c : Nat → ByteArray} {p : Nat → Int} {x z : ByteArray} (hf : FitT n c) (h : tabE n c p ≠ 0) (W : World) (xa : Option Addr) (ca : Nat) (hG : Ground W) (hx : Rt W xa n c p) :
    Calls Tryz.prog 31 #[.slice xa n (n + ca), .agg #[.string x, .string z]] W (ValP (strE ⟨#[]⟩ 1) W) := by
  obtain ⟨W0, hW0⟩ : ∃ V, V = W.alloc (.cells #[.string x, .string z] 35) := ⟨_, rfl⟩
  have hP0 : PairAt W0 W.heap.size 35 x z := by rw [hW0]; exact PairAt.made _ _ _ _
  have hb0 : Below W.heap.size W W0 := by rw [hW0]; exact (Below.refl _ _).alloc (Nat.le_refl _) _
  obtain ⟨B0, hB0⟩ : ∃ q, W.heap.size = q := ⟨_, rfl⟩
  rw [hB0] at hP0
  have HP := Lib.hid hP0
  have HB := Lib.hid hb0
  have HCK := Lib.hid (pTab W0 xa n (n + ca) (by omega) c p (hx.belowAt hb0 (Nat.le_refl _)) hf)
  have hmax := hf.max
  have HFI := Lib.hid (fun V (hB : Below W.heap.size W V) => pFind V xa n (n + ca) c p x (hx.belowAt hB (Nat.le_refl _)) (by omega))
  obtain ⟨d, hd⟩ : ∃ d, tabE n c p = d := ⟨_, rfl⟩
  rw [hd] at HCK
  have hdb : (d != 0) = true := by rw [bne_iff_ne, ← hd]; exact h
  clear hd h HFI
  have _ := hG
  unfold ValP strE
  clear hx hf hmax hP0 hb0 hG
  go_enter Tryz.func31, Tryz.ntmps31
  go_upto_region 1 with fail
  rw [← hW0]
  try rw [hB0]
  clear hW0
  go_wp2_with fail
  refine HCK.out.mono ?_
  rintro _ w1 ⟨rfl, hB⟩
  have hP1 := HP.out.below hB
  have hb := HB.out.trans (hB.mono HB.out.size)
  clear hB HP HB
  obtain ⟨k0, k1, _, _⟩ := hP1.cells
  go_wp2_with fail
  go_ret2
  exact ⟨rfl, by first | exact hb | exact hB0 ▸ hb⟩

set_option maxRecDepth 100000 in
set_option maxHeartbeats 16000000 in
theorem pText_can {n : Nat} {c : Nat → ByteArray} {p : Nat → Int} {x z : ByteArray} (hf : FitT n c) (hz : z.size ≤ 1000) {i : Nat} (h : tabE n c p = 0) (h1 : curI n c x = some i) (h2 : isCan z = false) (W : World) (xa : Option Addr) (ca : Nat) (hG : Ground W) (hx : Rt W xa n c p) :
    Calls Tryz.prog 31 #[.slice xa n (n + ca), .agg #[.string x, .string z]] W (ValP (strE ⟨#[]⟩ 1) W) := by
  obtain ⟨W0, hW0⟩ : ∃ V, V = W.alloc (.cells #[.string x, .string z] 35) := ⟨_, rfl⟩
  have hP0 : PairAt W0 W.heap.size 35 x z := by rw [hW0]; exact PairAt.made _ _ _ _
  have hb0 : Below W.heap.size W W0 := by rw [hW0]; exact (Below.refl _ _).alloc (Nat.le_refl _) _
  obtain ⟨B0, hB0⟩ : ∃ q, W.heap.size = q := ⟨_, rfl⟩
  rw [hB0] at hP0
  have HP := Lib.hid hP0
  have HB := Lib.hid hb0
  have HCK := Lib.hid (pTab W0 xa n (n + ca) (by omega) c p (hx.belowAt hb0 (Nat.le_refl _)) hf)
  have hmax := hf.max
  have HFI := Lib.hid (fun V (hB : Below W.heap.size W V) => pFind V xa n (n + ca) c p x (hx.belowAt hB (Nat.le_refl _)) (by omega))
  rw [h] at HCK
  rw [h1] at HFI
  unfold curV at HFI
  dsimp only at HFI
  obtain ⟨ci, hci⟩ : ∃ y, c i = y := ⟨_, rfl⟩
  obtain ⟨pi, hpi⟩ : ∃ y, p i = y := ⟨_, rfl⟩
  rw [hci, hpi] at HFI
  have HCA := Lib.hid (fun V => check_any z V (by omega))
  rw [show chk z = 1 by unfold chk; rw [h2]; rfl] at HCA
  clear h h1 h2 hci hpi hz
  have _ := hG
  unfold ValP strE
  clear hx hf hmax hP0 hb0 hG
  go_enter Tryz.func31, Tryz.ntmps31
  go_upto_region 1 with fail
  rw [← hW0]
  try rw [hB0]
  clear hW0
  go_wp2_with fail
  refine HCK.out.mono ?_
  rintro _ w1 ⟨rfl, hB⟩
  have hP1 := HP.out.below hB
  have hb := HB.out.trans (hB.mono HB.out.size)
  clear hB HP HB
  obtain ⟨k0, k1, _, _⟩ := hP1.cells
  go_wp2_with fail
  refine (HFI.out _ (by first | exact hb | exact hB0 ▸ hb)).mono ?_
  rintro _ w2 ⟨rfl, hB2⟩
  have hP2 := hP1.below hB2
  replace hb := hb.trans (hB2.mono hb.size)
  clear hB2 k0 k1 hP1 HFI
  obtain ⟨E1, hE1⟩ : ∃ s, w2.heap.size = s := ⟨_, rfl⟩
  obtain ⟨W3, hW3⟩ : ∃ V, V = w2.alloc (.cells #[.string ci, .int .i64 pi] 26) := ⟨_, rfl⟩
  have HE := Lib.hid (show TwoAt W3 E1 26 (.string ci) (.int .i64 pi) by rw [hW3, ← hE1]; exact TwoAt.made _ _ _ _)
  have hb3 : Below w2.heap.size w2 W3 := by rw [hW3]; exact (Below.refl _ _).alloc (Nat.le_refl _) _
  have hP3 := hP2.below hb3
  replace hb := hb.trans (hb3.mono hb.size)
  go_upto_region 4 with fail
  rw [← hW3]
  try rw [hE1]
  clear hW3 hb3 hP2 hE1
  obtain ⟨k0, k1, _, _⟩ := hP3.cells
  obtain ⟨k2, k3, _, _⟩ := HE.out.cells
  go_wp2_with fail
  refine (HCA.out _).mono ?_
  rintro _ _ ⟨rfl, rfl⟩
  go_wp2_with fail
  go_ret2
  exact ⟨rfl, by first | exact hb | exact hB0 ▸ hb⟩

set_option maxRecDepth 100000 in
set_option maxHeartbeats 16000000 in
theorem pText_ok {n : Nat} {c : Nat → ByteArray} {p : Nat → Int} {x z : ByteArray} (hf : FitT n c) (hz : z.size ≤ 1000) (hxs : x.size ≤ 1000) {i : Nat} (h : tabE n c p = 0) (h1 : curI n c x = some i) (h2 : isCan z = true) (W : World) (xa : Option Addr) (ca : Nat) (hG : Ground W) (hx : Rt W xa n c p) :
    Calls Tryz.prog 31 #[.slice xa n (n + ca), .agg #[.string x, .string z]] W (ValP (strE (txt (vS z) (p i).toNat ++ ⟨#[32]⟩ ++ x) 0) W) := by
  obtain ⟨W0, hW0⟩ : ∃ V, V = W.alloc (.cells #[.string x, .string z] 35) := ⟨_, rfl⟩
  have hP0 : PairAt W0 W.heap.size 35 x z := by rw [hW0]; exact PairAt.made _ _ _ _
  have hb0 : Below W.heap.size W W0 := by rw [hW0]; exact (Below.refl _ _).alloc (Nat.le_refl _) _
  obtain ⟨B0, hB0⟩ : ∃ q, W.heap.size = q := ⟨_, rfl⟩
  rw [hB0] at hP0
  have HP := Lib.hid hP0
  have HB := Lib.hid hb0
  have HCK := Lib.hid (pTab W0 xa n (n + ca) (by omega) c p (hx.belowAt hb0 (Nat.le_refl _)) hf)
  have hmax := hf.max
  have HFI := Lib.hid (fun V (hB : Below W.heap.size W V) => pFind V xa n (n + ca) c p x (hx.belowAt hB (Nat.le_refl _)) (by omega))
  rw [h] at HCK
  rw [h1] at HFI
  unfold curV at HFI
  dsimp only at HFI
  obtain ⟨ci, hci⟩ : ∃ y, c i = y := ⟨_, rfl⟩
  obtain ⟨pi, hpi⟩ : ∃ y, p i = y := ⟨_, rfl⟩
  rw [hci, hpi] at HFI
  have HCA := Lib.hid (fun V => check_any z V (by omega))
  rw [show chk z = 0 by unfold chk; rw [h2]; rfl] at HCA
  have hii := idx_is h1
  have hg := tabE_zero h
  have hlo := hg.low i hii.1
  have hhi := hg.high i hii.1
  have hcx : ci = x := by rw [← hci]; exact of_decide_eq_true hii.2.1
  have HTO := Lib.hid (text_ok (s := z) (z := vS z) (p := (p i).toNat) (by omega) rfl (by omega))
  rw [show (((p i).toNat : Nat) : Int) = p i by omega] at HTO
  have htx := txt_size (z := vS z) (p i).toNat (Cap.of hz rfl)
  have htx2 : (txt (vS z) (p i).toNat).size ≤ 2000 := by omega
  clear htx
  rw [hpi] at htx2 ⊢
  rw [hpi] at HTO
  rw [hcx] at HFI
  obtain ⟨tx, htxx⟩ : ∃ t, txt (vS z) pi.toNat = t := ⟨_, rfl⟩
  rw [htxx] at HTO htx2 ⊢
  have HG := Lib.hid hG
  unfold Ret two at HTO
  clear h h1 h2 hci hpi hz hii hg hlo hhi hcx htxx
  have _ := hG
  unfold ValP strE
  clear hx hf hmax hP0 hb0 hG
  go_enter Tryz.func31, Tryz.ntmps31
  go_upto_region 1 with fail
  rw [← hW0]
  try rw [hB0]
  clear hW0
  go_wp2_with fail
  refine HCK.out.mono ?_
  rintro _ w1 ⟨rfl, hB⟩
  have hP1 := HP.out.below hB
  have hb := HB.out.trans (hB.mono HB.out.size)
  clear hB HP HB
  obtain ⟨k0, k1, _, _⟩ := hP1.cells
  go_wp2_with fail
  refine (HFI.out _ (by first | exact hb | exact hB0 ▸ hb)).mono ?_
  rintro _ w2 ⟨rfl, hB2⟩
  have hP2 := hP1.below hB2
  replace hb := hb.trans (hB2.mono hb.size)
  clear hB2 k0 k1 hP1 HFI
  obtain ⟨E1, hE1⟩ : ∃ s, w2.heap.size = s := ⟨_, rfl⟩
  obtain ⟨W3, hW3⟩ : ∃ V, V = w2.alloc (.cells #[.string x, .int .i64 pi] 26) := ⟨_, rfl⟩
  have HE := Lib.hid (show TwoAt W3 E1 26 (.string x) (.int .i64 pi) by rw [hW3, ← hE1]; exact TwoAt.made _ _ _ _)
  have hb3 : Below w2.heap.size w2 W3 := by rw [hW3]; exact (Below.refl _ _).alloc (Nat.le_refl _) _
  have hP3 := hP2.below hb3
  replace hb := hb.trans (hb3.mono hb.size)
  go_upto_region 4 with fail
  rw [← hW3]
  try rw [hE1]
  clear hW3 hb3 hP2 hE1
  obtain ⟨k0, k1, _, _⟩ := hP3.cells
  obtain ⟨k2, k3, _, _⟩ := HE.out.cells
  go_wp2_with fail
  refine (HCA.out _).mono ?_
  rintro _ _ ⟨rfl, rfl⟩
  go_wp2_with fail
  refine (HTO.out _ (HG.out.below (by first | exact hb | exact hB0 ▸ hb))).mono ?_
  rintro _ w4 ⟨rfl, hB4⟩
  have hE4 := HE.out.below hB4
  replace hb := hb.trans (hB4.mono hb.size)
  clear k0 k1 k2 k3 hB4 HE hP3
  obtain ⟨k2, k3, _, _⟩ := hE4.cells
  have hs1 : tx.size + 1 ≤ 1000000 := by omega
  have hs2 : tx.size + 1 + x.size ≤ 1000000 := by omega
  go_wp2_with fail
  go_ret2
  exact ⟨rfl, by first | exact hb | exact hB0 ▸ hb⟩

set_option maxRecDepth 100000 in
set_option maxHeartbeats 16000000 in
theorem pPar_long {n : Nat} {c : Nat → ByteArray} {p : Nat → Int} {s : ByteArray} (hf : FitT n c) (h : tabE n c p = 0) (h1 : 65536 < s.size) (W : World) (xa : Option Addr) (ca : Nat) (hG : Ground W) (hx : Rt W xa n c p) :
    Calls Tryz.prog 33 #[.slice xa n (n + ca), .string s] W (ValP (monE ⟨#[]⟩ ⟨#[]⟩ 4) W) := by
  obtain ⟨W0, hW0⟩ : ∃ V, V = W.alloc (.cells #[.string ⟨#[]⟩, .string ⟨#[]⟩] 35) := ⟨_, rfl⟩
  obtain ⟨B0, hB0⟩ : ∃ q, W.heap.size = q := ⟨_, rfl⟩
  have hP0 : PairAt W0 B0 35 ⟨#[]⟩ ⟨#[]⟩ := by rw [hW0, ← hB0]; exact PairAt.made _ _ _ _
  have hb0 : Below W.heap.size W W0 := by rw [hW0]; exact (Below.refl _ _).alloc (Nat.le_refl _) _
  have HP := Lib.hid hP0
  have HB := Lib.hid hb0
  have HBW := Lib.hid (show W.heap.size ≤ B0 by omega)
  have HCK := Lib.hid (pTab W0 xa n (n + ca) (by omega) c p (hx.belowAt hb0 (Nat.le_refl _)) hf)
  rw [h] at HCK
  have hi : (65536 : Int) < (s.size : Int) := by omega
  clear h h1
  have _ := hG
  unfold ValP monE
  clear hx hf hP0 hb0 hG
  go_enter Tryz.func33, Tryz.ntmps33
  go_upto_region 1 with fail
  rw [← hW0]
  try rw [hB0]
  clear hW0
  go_wp2_with fail
  refine HCK.out.mono ?_
  rintro _ w1 ⟨rfl, hB⟩
  have hP1 := HP.out.below hB
  have hb := HB.out.trans (hB.mono HB.out.size)
  clear hB HP HB
  obtain ⟨m0, m1, m2, m3⟩ := hP1.cells
  have hPN := hP1.put ⟨#[]⟩ ⟨#[]⟩
  obtain ⟨l0, l1, _, _⟩ := hPN.cells
  have HBN := Lib.hid ((hb.setCell (p := ⟨B0, 0, none⟩) HBW.out (.string ⟨#[]⟩)).setCell (p := ⟨B0, 1, none⟩) HBW.out (.string ⟨#[]⟩))
  clear hPN
  go_wp2_with fail
  (try simp only [Exit.inBlock, Exit.then])
  exact bodyPost_ret (v := .tuple #[.agg #[.string ⟨#[]⟩, .string ⟨#[]⟩], .int .i64 (4)]) (by simp [results, Tryz.results33, go_sem, l0, l1]) rfl ⟨rfl, by first | exact HBN.out | exact hB0 ▸ HBN.out⟩

set_option maxRecDepth 100000 in
set_option maxHeartbeats 16000000 in
theorem pPar_no {n : Nat} {c : Nat → ByteArray} {p : Nat → Int} {s : ByteArray} (hf : FitT n c) (h : tabE n c p = 0) (h1 : s.size ≤ 65536) (h2 : Lib.lastIndexByte s 32 = -1) (W : World) (xa : Option Addr) (ca : Nat) (hG : Ground W) (hx : Rt W xa n c p) :
    Calls Tryz.prog 33 #[.slice xa n (n + ca), .string s] W (ValP (monE ⟨#[]⟩ ⟨#[]⟩ 3) W) := by
  obtain ⟨W0, hW0⟩ : ∃ V, V = W.alloc (.cells #[.string ⟨#[]⟩, .string ⟨#[]⟩] 35) := ⟨_, rfl⟩
  obtain ⟨B0, hB0⟩ : ∃ q, W.heap.size = q := ⟨_, rfl⟩
  have hP0 : PairAt W0 B0 35 ⟨#[]⟩ ⟨#[]⟩ := by rw [hW0, ← hB0]; exact PairAt.made _ _ _ _
  have hb0 : Below W.heap.size W W0 := by rw [hW0]; exact (Below.refl _ _).alloc (Nat.le_refl _) _
  have HP := Lib.hid hP0
  have HB := Lib.hid hb0
  have HBW := Lib.hid (show W.heap.size ≤ B0 by omega)
  have HCK := Lib.hid (pTab W0 xa n (n + ca) (by omega) c p (hx.belowAt hb0 (Nat.le_refl _)) hf)
  rw [h] at HCK
  have hi : ¬ (65536 : Int) < (s.size : Int) := by omega
  have HLI := Lib.hid (fun V => Tryz.strings_LastIndexByte s 32 (by omega) V)
  rw [h2] at HLI
  clear h h1 h2
  have _ := hG
  unfold ValP monE
  clear hx hf hP0 hb0 hG
  go_enter Tryz.func33, Tryz.ntmps33
  go_upto_region 1 with fail
  rw [← hW0]
  try rw [hB0]
  clear hW0
  go_wp2_with fail
  refine HCK.out.mono ?_
  rintro _ w1 ⟨rfl, hB⟩
  have hP1 := HP.out.below hB
  have hb := HB.out.trans (hB.mono HB.out.size)
  clear hB HP HB
  go_wp2_with fail
  refine (HLI.out _).mono ?_
  rintro _ _ ⟨rfl, rfl⟩
  obtain ⟨m0, m1, m2, m3⟩ := hP1.cells
  have hPN := hP1.put ⟨#[]⟩ ⟨#[]⟩
  obtain ⟨l0, l1, _, _⟩ := hPN.cells
  have HBN := Lib.hid ((hb.setCell (p := ⟨B0, 0, none⟩) HBW.out (.string ⟨#[]⟩)).setCell (p := ⟨B0, 1, none⟩) HBW.out (.string ⟨#[]⟩))
  clear hPN
  go_wp2_with fail
  (try simp only [Exit.inBlock, Exit.then])
  exact bodyPost_ret (v := .tuple #[.agg #[.string ⟨#[]⟩, .string ⟨#[]⟩], .int .i64 (3)]) (by simp [results, Tryz.results33, go_sem, l0, l1]) rfl ⟨rfl, by first | exact HBN.out | exact hB0 ▸ HBN.out⟩

set_option maxRecDepth 100000 in
set_option maxHeartbeats 16000000 in
theorem pPar_code {n : Nat} {c : Nat → ByteArray} {p : Nat → Int} {s : ByteArray} (hf : FitT n c) (h : tabE n c p = 0) (h1 : s.size ≤ 65536) {k : Nat} (hk : k < s.size) (h2 : Lib.lastIndexByte s 32 = k) (h3 : codeS (s.extract (k + 1) s.size) = false) (W : World) (xa : Option Addr) (ca : Nat) (hG : Ground W) (hx : Rt W xa n c p) :
    Calls Tryz.prog 33 #[.slice xa n (n + ca), .string s] W (ValP (monE ⟨#[]⟩ ⟨#[]⟩ 3) W) := by
  obtain ⟨W0, hW0⟩ : ∃ V, V = W.alloc (.cells #[.string ⟨#[]⟩, .string ⟨#[]⟩] 35) := ⟨_, rfl⟩
  obtain ⟨B0, hB0⟩ : ∃ q, W.heap.size = q := ⟨_, rfl⟩
  have hP0 : PairAt W0 B0 35 ⟨#[]⟩ ⟨#[]⟩ := by rw [hW0, ← hB0]; exact PairAt.made _ _ _ _
  have hb0 : Below W.heap.size W W0 := by rw [hW0]; exact (Below.refl _ _).alloc (Nat.le_refl _) _
  have HP := Lib.hid hP0
  have HB := Lib.hid hb0
  have HBW := Lib.hid (show W.heap.size ≤ B0 by omega)
  have HCK := Lib.hid (pTab W0 xa n (n + ca) (by omega) c p (hx.belowAt hb0 (Nat.le_refl _)) hf)
  rw [h] at HCK
  have hi : ¬ (65536 : Int) < (s.size : Int) := by omega
  have HLI := Lib.hid (fun V => Tryz.strings_LastIndexByte s 32 (by omega) V)
  rw [h2] at HLI
  have hw1 : IntKind.i64.wrap ((k : Int) + 1) = ((k + 1 : Nat) : Int) := by rw [IntWalk.i64_in _ (by omega)]; omega
  have HCO := Lib.hid (fun V => pCode (s.extract (k + 1) s.size) V (by rw [ByteArray.size_extract]; omega))
  rw [h3] at HCO
  have e1 : ¬ (k : Int) < 0 := by omega
  have e2 : ((k + 1 : Nat) : Int) ≤ (s.size : Int) := by omega
  have e3 : (0 : Int) ≤ ((k + 1 : Nat) : Int) := by omega
  have e4 : (((k + 1 : Nat) : Int)).toNat = k + 1 := by omega
  clear h h1 h2 h3
  have _ := hG
  unfold ValP monE
  clear hx hf hP0 hb0 hG
  go_enter Tryz.func33, Tryz.ntmps33
  go_upto_region 1 with fail
  rw [← hW0]
  try rw [hB0]
  clear hW0
  go_wp2_with fail
  refine HCK.out.mono ?_
  rintro _ w1 ⟨rfl, hB⟩
  have hP1 := HP.out.below hB
  have hb := HB.out.trans (hB.mono HB.out.size)
  clear hB HP HB
  go_wp2_with fail
  refine (HLI.out _).mono ?_
  rintro _ _ ⟨rfl, rfl⟩
  go_wp2_with fail
  refine (HCO.out _).mono ?_
  rintro _ _ ⟨rfl, rfl⟩
  obtain ⟨m0, m1, m2, m3⟩ := hP1.cells
  have hPN := hP1.put ⟨#[]⟩ ⟨#[]⟩
  obtain ⟨l0, l1, _, _⟩ := hPN.cells
  have HBN := Lib.hid ((hb.setCell (p := ⟨B0, 0, none⟩) HBW.out (.string ⟨#[]⟩)).setCell (p := ⟨B0, 1, none⟩) HBW.out (.string ⟨#[]⟩))
  clear hPN
  go_wp2_with fail
  (try simp only [Exit.inBlock, Exit.then])
  exact bodyPost_ret (v := .tuple #[.agg #[.string ⟨#[]⟩, .string ⟨#[]⟩], .int .i64 (3)]) (by simp [results, Tryz.results33, go_sem, l0, l1]) rfl ⟨rfl, by first | exact HBN.out | exact hB0 ▸ HBN.out⟩

set_option maxRecDepth 100000 in
set_option maxHeartbeats 16000000 in
theorem pPar_none {n : Nat} {c : Nat → ByteArray} {p : Nat → Int} {s : ByteArray} (hf : FitT n c) {m : Nat} (h : tabE n c p = 0) (h1 : s.size ≤ 65536) (hm : ParP s m) (h2 : curI n c (s.extract (m + 1) s.size) = none) (W : World) (xa : Option Addr) (ca : Nat) (hG : Ground W) (hx : Rt W xa n c p) :
    Calls Tryz.prog 33 #[.slice xa n (n + ca), .string s] W (ValP (monE ⟨#[]⟩ ⟨#[]⟩ 12) W) := by
  obtain ⟨W0, hW0⟩ : ∃ V, V = W.alloc (.cells #[.string ⟨#[]⟩, .string ⟨#[]⟩] 35) := ⟨_, rfl⟩
  obtain ⟨B0, hB0⟩ : ∃ q, W.heap.size = q := ⟨_, rfl⟩
  have hP0 : PairAt W0 B0 35 ⟨#[]⟩ ⟨#[]⟩ := by rw [hW0, ← hB0]; exact PairAt.made _ _ _ _
  have hb0 : Below W.heap.size W W0 := by rw [hW0]; exact (Below.refl _ _).alloc (Nat.le_refl _) _
  have HP := Lib.hid hP0
  have HB := Lib.hid hb0
  have HBW := Lib.hid (show W.heap.size ≤ B0 by omega)
  have HCK := Lib.hid (pTab W0 xa n (n + ca) (by omega) c p (hx.belowAt hb0 (Nat.le_refl _)) hf)
  rw [h] at HCK
  have hi : ¬ (65536 : Int) < (s.size : Int) := by omega
  have HLI := Lib.hid (fun V => Tryz.strings_LastIndexByte s 32 (by omega) V)
  have hs := hm.size
  rw [last_good hm] at HLI
  have hw1 : IntKind.i64.wrap ((m : Int) + 1) = ((m + 1 : Nat) : Int) := by rw [IntWalk.i64_in _ (by omega)]; omega
  have HCO := Lib.hid (fun V => pCode (s.extract (m + 1) s.size) V (by rw [ByteArray.size_extract]; omega))
  rw [hm.code] at HCO
  have e1 : ¬ (m : Int) < 0 := by omega
  have e2 : ((m + 1 : Nat) : Int) ≤ (s.size : Int) := by omega
  have e3 : (0 : Int) ≤ ((m + 1 : Nat) : Int) := by omega
  have e4 : (((m + 1 : Nat) : Int)).toNat = m + 1 := by omega
  have e5 : (m : Int) ≤ (s.size : Int) := by omega
  have e6 : (0 : Int) ≤ (m : Int) := by omega
  have e7 : m ≤ s.size := by omega
  have hmax := hf.max
  have HFI := Lib.hid (fun V (hB : Below W.heap.size W V) => pFind V xa n (n + ca) c p (s.extract (m + 1) s.size) (hx.belowAt hB (Nat.le_refl _)) (by omega))
  rw [h2] at HFI
  unfold curV at HFI
  dsimp only at HFI
  clear h h1 h2 hm hs hmax
  have _ := hG
  unfold ValP monE
  clear hx hf hP0 hb0 hG
  go_enter Tryz.func33, Tryz.ntmps33
  go_upto_region 1 with fail
  rw [← hW0]
  try rw [hB0]
  clear hW0
  go_wp2_with fail
  refine HCK.out.mono ?_
  rintro _ w1 ⟨rfl, hB⟩
  have hP1 := HP.out.below hB
  have hb := HB.out.trans (hB.mono HB.out.size)
  clear hB HP HB
  go_wp2_with fail
  refine (HLI.out _).mono ?_
  rintro _ _ ⟨rfl, rfl⟩
  go_wp2_with fail
  refine (HCO.out _).mono ?_
  rintro _ _ ⟨rfl, rfl⟩
  go_wp2_with fail
  refine (HFI.out _ (by first | exact hb | exact hB0 ▸ hb)).mono ?_
  rintro _ w2 ⟨rfl, hB2⟩
  have hP2 := hP1.below hB2
  replace hb := hb.trans (hB2.mono hb.size)
  clear hB2 hP1 HFI HLI HCO
  obtain ⟨E1, hE1⟩ : ∃ q, w2.heap.size = q := ⟨_, rfl⟩
  obtain ⟨W3, hW3⟩ : ∃ V, V = w2.alloc (.cells #[.string ⟨#[]⟩, .int .i64 0] 26) := ⟨_, rfl⟩
  have HE := Lib.hid (show TwoAt W3 E1 26 (.string ⟨#[]⟩) (.int .i64 0) by rw [hW3, ← hE1]; exact TwoAt.made _ _ _ _)
  have hb3 : Below w2.heap.size w2 W3 := by rw [hW3]; exact (Below.refl _ _).alloc (Nat.le_refl _) _
  have hP3 := hP2.below hb3
  have hBE : B0 ≠ E1 := by have := hP2.lt; omega
  replace hb := hb.trans (hb3.mono hb.size)
  go_upto_region 9 with fail
  rw [← hW3]
  try rw [hE1]
  clear hW3 hb3 hP2 hE1
  obtain ⟨m0, m1, m2, m3⟩ := hP3.cells
  have hPN := hP3.put ⟨#[]⟩ ⟨#[]⟩
  obtain ⟨l0, l1, _, _⟩ := hPN.cells
  have HBN := Lib.hid ((hb.setCell (p := ⟨B0, 0, none⟩) HBW.out (.string ⟨#[]⟩)).setCell (p := ⟨B0, 1, none⟩) HBW.out (.string ⟨#[]⟩))
  clear hPN
  go_wp2_with fail
  (try simp only [Exit.inBlock, Exit.then])
  exact bodyPost_ret (v := .tuple #[.agg #[.string ⟨#[]⟩, .string ⟨#[]⟩], .int .i64 (12)]) (by simp [results, Tryz.results33, go_sem, l0, l1]) rfl ⟨rfl, by first | exact HBN.out | exact hB0 ▸ HBN.out⟩

set_option maxRecDepth 100000 in
set_option maxHeartbeats 16000000 in
theorem pPar_err {n : Nat} {c : Nat → ByteArray} {p : Nat → Int} {s : ByteArray} (hf : FitT n c) {m : Nat} (h : tabE n c p = 0) (h1 : s.size ≤ 65536) (hm : ParP s m) {i : Nat} (h2 : curI n c (s.extract (m + 1) s.size) = some i) (a : ByteArray) (ee : Int) (he : ee ≠ 0) (hP : Ret 65 #[.string (s.extract 0 m), .int .i64 (p i)] (two a ee)) (W : World) (xa : Option Addr) (ca : Nat) (hG : Ground W) (hx : Rt W xa n c p) :
    Calls Tryz.prog 33 #[.slice xa n (n + ca), .string s] W (ValP (monE ⟨#[]⟩ ⟨#[]⟩ ee) W) := by
  obtain ⟨W0, hW0⟩ : ∃ V, V = W.alloc (.cells #[.string ⟨#[]⟩, .string ⟨#[]⟩] 35) := ⟨_, rfl⟩
  obtain ⟨B0, hB0⟩ : ∃ q, W.heap.size = q := ⟨_, rfl⟩
  have hP0 : PairAt W0 B0 35 ⟨#[]⟩ ⟨#[]⟩ := by rw [hW0, ← hB0]; exact PairAt.made _ _ _ _
  have hb0 : Below W.heap.size W W0 := by rw [hW0]; exact (Below.refl _ _).alloc (Nat.le_refl _) _
  have HP := Lib.hid hP0
  have HB := Lib.hid hb0
  have HBW := Lib.hid (show W.heap.size ≤ B0 by omega)
  have HCK := Lib.hid (pTab W0 xa n (n + ca) (by omega) c p (hx.belowAt hb0 (Nat.le_refl _)) hf)
  rw [h] at HCK
  have hi : ¬ (65536 : Int) < (s.size : Int) := by omega
  have HLI := Lib.hid (fun V => Tryz.strings_LastIndexByte s 32 (by omega) V)
  have hs := hm.size
  rw [last_good hm] at HLI
  have hw1 : IntKind.i64.wrap ((m : Int) + 1) = ((m + 1 : Nat) : Int) := by rw [IntWalk.i64_in _ (by omega)]; omega
  have HCO := Lib.hid (fun V => pCode (s.extract (m + 1) s.size) V (by rw [ByteArray.size_extract]; omega))
  rw [hm.code] at HCO
  have e1 : ¬ (m : Int) < 0 := by omega
  have e2 : ((m + 1 : Nat) : Int) ≤ (s.size : Int) := by omega
  have e3 : (0 : Int) ≤ ((m + 1 : Nat) : Int) := by omega
  have e4 : (((m + 1 : Nat) : Int)).toNat = m + 1 := by omega
  have e5 : (m : Int) ≤ (s.size : Int) := by omega
  have e6 : (0 : Int) ≤ (m : Int) := by omega
  have e7 : m ≤ s.size := by omega
  have hmax := hf.max
  have HFI := Lib.hid (fun V (hB : Below W.heap.size W V) => pFind V xa n (n + ca) c p (s.extract (m + 1) s.size) (hx.belowAt hB (Nat.le_refl _)) (by omega))
  have hii := idx_is h2
  have hcx : c i = s.extract (m + 1) s.size := of_decide_eq_true hii.2.1
  rw [h2] at HFI
  unfold curV at HFI
  dsimp only at HFI
  rw [hcx] at HFI
  obtain ⟨pi, hpi⟩ : ∃ y, p i = y := ⟨_, rfl⟩
  rw [hpi] at HFI hP
  have HPA := Lib.hid hP
  have HG := Lib.hid hG
  have hse : (s.extract 0 m).size ≤ 65536 := by rw [ByteArray.size_extract]; omega
  unfold Ret two at HPA
  clear h h1 h2 hm hs hmax hii hcx hpi hP hse
  have hb2 : (ee != 0) = true := by rw [bne_iff_ne]; exact he
  clear he
  have _ := hG
  unfold ValP monE
  clear hx hf hP0 hb0 hG
  go_enter Tryz.func33, Tryz.ntmps33
  go_upto_region 1 with fail
  rw [← hW0]
  try rw [hB0]
  clear hW0
  go_wp2_with fail
  refine HCK.out.mono ?_
  rintro _ w1 ⟨rfl, hB⟩
  have hP1 := HP.out.below hB
  have hb := HB.out.trans (hB.mono HB.out.size)
  clear hB HP HB
  go_wp2_with fail
  refine (HLI.out _).mono ?_
  rintro _ _ ⟨rfl, rfl⟩
  go_wp2_with fail
  refine (HCO.out _).mono ?_
  rintro _ _ ⟨rfl, rfl⟩
  go_wp2_with fail
  refine (HFI.out _ (by first | exact hb | exact hB0 ▸ hb)).mono ?_
  rintro _ w2 ⟨rfl, hB2⟩
  have hP2 := hP1.below hB2
  replace hb := hb.trans (hB2.mono hb.size)
  clear hB2 hP1 HFI HLI HCO
  obtain ⟨E1, hE1⟩ : ∃ q, w2.heap.size = q := ⟨_, rfl⟩
  obtain ⟨W3, hW3⟩ : ∃ V, V = w2.alloc (.cells #[.string (s.extract (m + 1) s.size), .int .i64 pi] 26) := ⟨_, rfl⟩
  have HE := Lib.hid (show TwoAt W3 E1 26 (.string (s.extract (m + 1) s.size)) (.int .i64 pi) by rw [hW3, ← hE1]; exact TwoAt.made _ _ _ _)
  have hb3 : Below w2.heap.size w2 W3 := by rw [hW3]; exact (Below.refl _ _).alloc (Nat.le_refl _) _
  have hP3 := hP2.below hb3
  have hBE : B0 ≠ E1 := by have := hP2.lt; omega
  replace hb := hb.trans (hb3.mono hb.size)
  go_upto_region 9 with fail
  rw [← hW3]
  try rw [hE1]
  clear hW3 hb3 hP2 hE1
  obtain ⟨k2, k3, _, _⟩ := HE.out.cells
  go_wp2_with fail
  refine wp_region_held_drew (S := fun w' => w'.cell? ⟨E1, 1, none⟩ = some (.int .i64 pi)) (by kernel_rfl) (by (try dsimp only); first | exact k3 | exact g1) (fun hHeld => ?_)
  refine wpAnyH_take (i := 0) (oi := { dst := some 45, op := Op.move (Operand.tmp 1), type := 9, pos := "money.go:123", after := #[], guard := none }) (v := ?_) rfl (by kernel_rfl) (by kernel_rfl) (by kernel_rfl) (fun _ _ _ h => h) (Or.inl ⟨by rfl, ?_⟩) (by assumption) ?_
  rotate_left
  focus ((intro w hSw; (try dsimp only at hSw); go_simp); (try with_reducible rfl))
  try simp only [Act.put, List.setIfInBounds_toArray, List.set_cons_zero, List.set_cons_succ]
  refine wpAnyH_take (i := 1) (oi := { dst := some 46, op := Op.move (Operand.tmp 6), type := 3, pos := "money.go:123", after := #[], guard := none }) (v := ?_) rfl (by kernel_rfl) (by kernel_rfl) (by kernel_rfl) (fun _ _ _ h => h) (Or.inl ⟨by rfl, ?_⟩) (by assumption) ?_
  rotate_left
  focus ((intro w hSw; (try dsimp only at hSw); go_simp); (try with_reducible rfl))
  try simp only [Act.put, List.setIfInBounds_toArray, List.set_cons_zero, List.set_cons_succ]
  refine wpAnyH_take (i := 3) (oi := { dst := some 48, op := Op.fieldAddr 26 (Operand.tmp 7) 1, type := 0, pos := "money.go:123", after := #[], guard := none }) (v := ?_) rfl (by kernel_rfl) (by kernel_rfl) (by kernel_rfl) (fun _ _ _ h => h) (Or.inl ⟨by rfl, ?_⟩) (by assumption) ?_
  rotate_left
  focus ((intro w hSw; (try dsimp only at hSw); go_simp); (try with_reducible rfl))
  try simp only [Act.put, List.setIfInBounds_toArray, List.set_cons_zero, List.set_cons_succ]
  refine wpAnyH_take (i := 4) (oi := { dst := some 49, op := Op.load 3 (Operand.tmp 48), type := 3, pos := "money.go:123", after := #[{ on := 3, ground := Ground.data }], guard := none }) (v := ?_) rfl (by kernel_rfl) (by kernel_rfl) (by kernel_rfl) (fun _ _ _ h => h) (Or.inl ⟨by rfl, ?_⟩) (by assumption) ?_
  rotate_left
  focus ((intro w hSw; (try dsimp only at hSw); go_simp); (try with_reducible rfl))
  try simp only [Act.put, List.setIfInBounds_toArray, List.set_cons_zero, List.set_cons_succ]
  refine wpAnyH_ready (rs := [2]) (by kernel_rfl) (by simp) ?_
  refine AllReadyH.cons (o := { dst := some 47, op := Op.slice 9 (Operand.tmp 45) none (some (Operand.tmp 46)) none, type := 9, pos := "money.go:123", after := #[{ on := 0, ground := Ground.data }, { on := 1, ground := Ground.data }], guard := none }) rfl (fun K hK => ?_) AllReadyH.nil
  clear hHeld
  go_simp
  refine hK.out _ _ (by (try dsimp only); first | exact k3 | exact g1) (fun hHeld => ?_)
  clear hK K
  try simp only [Act.put, List.setIfInBounds_toArray, List.set_cons_zero, List.set_cons_succ]
  refine wpAnyH_ready (rs := [5]) (by kernel_rfl) (by simp) ?_
  refine AllReadyH.cons (o := { dst := some 50, op := Op.call { callee := Callee.value (Operand.func 65), args := #[Operand.tmp 47, Operand.tmp 49], argTypes := #[9, 3] }, type := 83, pos := "money.go:123", after := #[{ on := 2, ground := Ground.data }, { on := 4, ground := Ground.data }], guard := none }) rfl (fun K hK => ?_) AllReadyH.nil
  clear hHeld
  go_simp
  refine (HPA.out _ (HG.out.below (by first | exact below_drew hb | exact hB0 ▸ below_drew hb))).mono ?_
  rintro _ w4 ⟨rfl, hB4⟩
  have HE4 := Lib.hid (show TwoAt w4 E1 26 (.string (s.extract (m + 1) s.size)) (.int .i64 pi) from TwoAt.below (w := W3.drew) HE.out hB4)
  have hP4 : PairAt w4 B0 35 ⟨#[]⟩ ⟨#[]⟩ := PairAt.below (w := W3.drew) hP3 hB4
  have hb4 := (below_drew hb).trans (hB4.mono (below_drew hb).size)
  clear hB4 hb hP3
  have hb := hb4
  clear hb4
  obtain ⟨g0, g1, _, _⟩ := HE4.out.cells
  go_wp2_with fail
  refine hK.out _ _ (by (try dsimp only); first | exact k3 | exact g1) (fun hHeld => ?_)
  clear hK K
  try simp only [Act.put, List.setIfInBounds_toArray, List.set_cons_zero, List.set_cons_succ]
  refine wpAnyH_take (i := 6) (oi := { dst := some 44, op := Op.move (Operand.tmp 50), type := 83, pos := "money.go:123", after := #[{ on := 5, ground := Ground.data }], guard := none }) (v := ?_) rfl (by kernel_rfl) (by kernel_rfl) (by kernel_rfl) (fun _ _ _ h => h) (Or.inl ⟨by rfl, ?_⟩) (by assumption) ?_
  rotate_left
  focus ((intro w hSw; (try dsimp only at hSw); go_simp); (try with_reducible rfl))
  try simp only [Act.put, List.setIfInBounds_toArray, List.set_cons_zero, List.set_cons_succ]
  refine wpAnyH_take (i := 7) (oi := { dst := some 51, op := Op.extract (Operand.tmp 44) 0, type := 33, pos := "money.go:123", after := #[{ on := 6, ground := Ground.data }], guard := none }) (v := ?_) rfl (by kernel_rfl) (by kernel_rfl) (by kernel_rfl) (fun _ _ _ h => h) (Or.inl ⟨by rfl, ?_⟩) (by assumption) ?_
  rotate_left
  focus ((intro w hSw; (try dsimp only at hSw); go_simp); (try with_reducible rfl))
  try simp only [Act.put, List.setIfInBounds_toArray, List.set_cons_zero, List.set_cons_succ]
  refine wpAnyH_take (i := 8) (oi := { dst := some 52, op := Op.extract (Operand.tmp 44) 1, type := 29, pos := "money.go:123", after := #[{ on := 6, ground := Ground.data }, { on := 9, ground := Ground.gcOnly Departure.lateStores }], guard := none }) (v := ?_) rfl (by kernel_rfl) (by kernel_rfl) (by kernel_rfl) (fun _ _ _ h => h) (Or.inl ⟨by rfl, ?_⟩) (by assumption) ?_
  rotate_left
  focus ((intro w hSw; (try dsimp only at hSw); go_simp); (try with_reducible rfl))
  try simp only [Act.put, List.setIfInBounds_toArray, List.set_cons_zero, List.set_cons_succ]
  refine wpAnyH_take (i := 9) (oi := { dst := some 9, op := Op.assign (Operand.tmp 51), type := 33, pos := "money.go:123", after := #[{ on := 7, ground := Ground.data }, { on := 5, ground := Ground.chain }, { on := 0, ground := Ground.phase }, { on := 1, ground := Ground.phase }, { on := 2, ground := Ground.phase }, { on := 3, ground := Ground.phase }, { on := 4, ground := Ground.phase }, { on := 5, ground := Ground.phase }, { on := 6, ground := Ground.phase }, { on := 7, ground := Ground.phase }, { on := 8, ground := Ground.textOnly Departure.lateStores }], guard := none }) (v := ?_) rfl (by kernel_rfl) (by kernel_rfl) (by kernel_rfl) (fun _ _ _ h => h) (Or.inl ⟨by rfl, ?_⟩) (by assumption) ?_
  rotate_left
  focus ((intro w hSw; (try dsimp only at hSw); go_simp); (try with_reducible rfl))
  try simp only [Act.put, List.setIfInBounds_toArray, List.set_cons_zero, List.set_cons_succ]
  refine wpAnyH_take (i := 10) (oi := { dst := some 10, op := Op.assign (Operand.tmp 52), type := 29, pos := "money.go:123", after := #[{ on := 8, ground := Ground.data }, { on := 9, ground := Ground.chain }, { on := 0, ground := Ground.phase }, { on := 1, ground := Ground.phase }, { on := 2, ground := Ground.phase }, { on := 3, ground := Ground.phase }, { on := 4, ground := Ground.phase }, { on := 5, ground := Ground.phase }, { on := 6, ground := Ground.phase }, { on := 7, ground := Ground.phase }, { on := 8, ground := Ground.phase }, { on := 9, ground := Ground.phase }], guard := none }) (v := ?_) rfl (by kernel_rfl) (by kernel_rfl) (by kernel_rfl) (fun _ _ _ h => h) (Or.inl ⟨by rfl, ?_⟩) (by assumption) ?_
  rotate_left
  focus ((intro w hSw; (try dsimp only at hSw); go_simp); (try with_reducible rfl))
  try simp only [Act.put, List.setIfInBounds_toArray, List.set_cons_zero, List.set_cons_succ]
  refine wpAnyH_done (by kernel_rfl) ?_ _
  clear hHeld
  clear k2 k3 HE
  obtain ⟨m0, m1, m2, m3⟩ := hP4.cells
  have hPN := hP4.put ⟨#[]⟩ ⟨#[]⟩
  obtain ⟨l0, l1, _, _⟩ := hPN.cells
  have HBN := Lib.hid ((hb.setCell (p := ⟨B0, 0, none⟩) HBW.out (.string ⟨#[]⟩)).setCell (p := ⟨B0, 1, none⟩) HBW.out (.string ⟨#[]⟩))
  clear hPN
  go_wp2_with fail
  (try simp only [Exit.inBlock, Exit.then])
  exact bodyPost_ret (v := .tuple #[.agg #[.string ⟨#[]⟩, .string ⟨#[]⟩], .int .i64 (ee)]) (by simp [results, Tryz.results33, go_sem, l0, l1]) rfl ⟨rfl, by first | exact HBN.out | exact hB0 ▸ HBN.out⟩

set_option maxRecDepth 100000 in
set_option maxHeartbeats 16000000 in
theorem pPar_ok {n : Nat} {c : Nat → ByteArray} {p : Nat → Int} {s : ByteArray} (hf : FitT n c) {m : Nat} (h : tabE n c p = 0) (h1 : s.size ≤ 65536) (hm : ParP s m) {i : Nat} (h2 : curI n c (s.extract (m + 1) s.size) = some i) (a : ByteArray) (hP : Ret 65 #[.string (s.extract 0 m), .int .i64 (p i)] (two a 0)) (W : World) (xa : Option Addr) (ca : Nat) (hG : Ground W) (hx : Rt W xa n c p) :
    Calls Tryz.prog 33 #[.slice xa n (n + ca), .string s] W (ValP (monE (s.extract (m + 1) s.size) a 0) W) := by
  obtain ⟨W0, hW0⟩ : ∃ V, V = W.alloc (.cells #[.string ⟨#[]⟩, .string ⟨#[]⟩] 35) := ⟨_, rfl⟩
  obtain ⟨B0, hB0⟩ : ∃ q, W.heap.size = q := ⟨_, rfl⟩
  have hP0 : PairAt W0 B0 35 ⟨#[]⟩ ⟨#[]⟩ := by rw [hW0, ← hB0]; exact PairAt.made _ _ _ _
  have hb0 : Below W.heap.size W W0 := by rw [hW0]; exact (Below.refl _ _).alloc (Nat.le_refl _) _
  have HP := Lib.hid hP0
  have HB := Lib.hid hb0
  have HBW := Lib.hid (show W.heap.size ≤ B0 by omega)
  have HCK := Lib.hid (pTab W0 xa n (n + ca) (by omega) c p (hx.belowAt hb0 (Nat.le_refl _)) hf)
  rw [h] at HCK
  have hi : ¬ (65536 : Int) < (s.size : Int) := by omega
  have HLI := Lib.hid (fun V => Tryz.strings_LastIndexByte s 32 (by omega) V)
  have hs := hm.size
  rw [last_good hm] at HLI
  have hw1 : IntKind.i64.wrap ((m : Int) + 1) = ((m + 1 : Nat) : Int) := by rw [IntWalk.i64_in _ (by omega)]; omega
  have HCO := Lib.hid (fun V => pCode (s.extract (m + 1) s.size) V (by rw [ByteArray.size_extract]; omega))
  rw [hm.code] at HCO
  have e1 : ¬ (m : Int) < 0 := by omega
  have e2 : ((m + 1 : Nat) : Int) ≤ (s.size : Int) := by omega
  have e3 : (0 : Int) ≤ ((m + 1 : Nat) : Int) := by omega
  have e4 : (((m + 1 : Nat) : Int)).toNat = m + 1 := by omega
  have e5 : (m : Int) ≤ (s.size : Int) := by omega
  have e6 : (0 : Int) ≤ (m : Int) := by omega
  have e7 : m ≤ s.size := by omega
  have hmax := hf.max
  have HFI := Lib.hid (fun V (hB : Below W.heap.size W V) => pFind V xa n (n + ca) c p (s.extract (m + 1) s.size) (hx.belowAt hB (Nat.le_refl _)) (by omega))
  have hii := idx_is h2
  have hcx : c i = s.extract (m + 1) s.size := of_decide_eq_true hii.2.1
  rw [h2] at HFI
  unfold curV at HFI
  dsimp only at HFI
  rw [hcx] at HFI
  obtain ⟨pi, hpi⟩ : ∃ y, p i = y := ⟨_, rfl⟩
  rw [hpi] at HFI hP
  have HPA := Lib.hid hP
  have HG := Lib.hid hG
  have hse : (s.extract 0 m).size ≤ 65536 := by rw [ByteArray.size_extract]; omega
  unfold Ret two at HPA
  clear h h1 h2 hm hs hmax hii hcx hpi hP hse
  have _ := hG
  unfold ValP monE
  clear hx hf hP0 hb0 hG
  go_enter Tryz.func33, Tryz.ntmps33
  go_upto_region 1 with fail
  rw [← hW0]
  try rw [hB0]
  clear hW0
  go_wp2_with fail
  refine HCK.out.mono ?_
  rintro _ w1 ⟨rfl, hB⟩
  have hP1 := HP.out.below hB
  have hb := HB.out.trans (hB.mono HB.out.size)
  clear hB HP HB
  go_wp2_with fail
  refine (HLI.out _).mono ?_
  rintro _ _ ⟨rfl, rfl⟩
  go_wp2_with fail
  refine (HCO.out _).mono ?_
  rintro _ _ ⟨rfl, rfl⟩
  go_wp2_with fail
  refine (HFI.out _ (by first | exact hb | exact hB0 ▸ hb)).mono ?_
  rintro _ w2 ⟨rfl, hB2⟩
  have hP2 := hP1.below hB2
  replace hb := hb.trans (hB2.mono hb.size)
  clear hB2 hP1 HFI HLI HCO
  obtain ⟨E1, hE1⟩ : ∃ q, w2.heap.size = q := ⟨_, rfl⟩
  obtain ⟨W3, hW3⟩ : ∃ V, V = w2.alloc (.cells #[.string (s.extract (m + 1) s.size), .int .i64 pi] 26) := ⟨_, rfl⟩
  have HE := Lib.hid (show TwoAt W3 E1 26 (.string (s.extract (m + 1) s.size)) (.int .i64 pi) by rw [hW3, ← hE1]; exact TwoAt.made _ _ _ _)
  have hb3 : Below w2.heap.size w2 W3 := by rw [hW3]; exact (Below.refl _ _).alloc (Nat.le_refl _) _
  have hP3 := hP2.below hb3
  have hBE : B0 ≠ E1 := by have := hP2.lt; omega
  replace hb := hb.trans (hb3.mono hb.size)
  go_upto_region 9 with fail
  rw [← hW3]
  try rw [hE1]
  clear hW3 hb3 hP2 hE1
  obtain ⟨k2, k3, _, _⟩ := HE.out.cells
  go_wp2_with fail
  refine wp_region_held_drew (S := fun w' => w'.cell? ⟨E1, 1, none⟩ = some (.int .i64 pi)) (by kernel_rfl) (by (try dsimp only); first | exact k3 | exact g1) (fun hHeld => ?_)
  refine wpAnyH_take (i := 0) (oi := { dst := some 45, op := Op.move (Operand.tmp 1), type := 9, pos := "money.go:123", after := #[], guard := none }) (v := ?_) rfl (by kernel_rfl) (by kernel_rfl) (by kernel_rfl) (fun _ _ _ h => h) (Or.inl ⟨by rfl, ?_⟩) (by assumption) ?_
  rotate_left
  focus ((intro w hSw; (try dsimp only at hSw); go_simp); (try with_reducible rfl))
  try simp only [Act.put, List.setIfInBounds_toArray, List.set_cons_zero, List.set_cons_succ]
  refine wpAnyH_take (i := 1) (oi := { dst := some 46, op := Op.move (Operand.tmp 6), type := 3, pos := "money.go:123", after := #[], guard := none }) (v := ?_) rfl (by kernel_rfl) (by kernel_rfl) (by kernel_rfl) (fun _ _ _ h => h) (Or.inl ⟨by rfl, ?_⟩) (by assumption) ?_
  rotate_left
  focus ((intro w hSw; (try dsimp only at hSw); go_simp); (try with_reducible rfl))
  try simp only [Act.put, List.setIfInBounds_toArray, List.set_cons_zero, List.set_cons_succ]
  refine wpAnyH_take (i := 3) (oi := { dst := some 48, op := Op.fieldAddr 26 (Operand.tmp 7) 1, type := 0, pos := "money.go:123", after := #[], guard := none }) (v := ?_) rfl (by kernel_rfl) (by kernel_rfl) (by kernel_rfl) (fun _ _ _ h => h) (Or.inl ⟨by rfl, ?_⟩) (by assumption) ?_
  rotate_left
  focus ((intro w hSw; (try dsimp only at hSw); go_simp); (try with_reducible rfl))
  try simp only [Act.put, List.setIfInBounds_toArray, List.set_cons_zero, List.set_cons_succ]
  refine wpAnyH_take (i := 4) (oi := { dst := some 49, op := Op.load 3 (Operand.tmp 48), type := 3, pos := "money.go:123", after := #[{ on := 3, ground := Ground.data }], guard := none }) (v := ?_) rfl (by kernel_rfl) (by kernel_rfl) (by kernel_rfl) (fun _ _ _ h => h) (Or.inl ⟨by rfl, ?_⟩) (by assumption) ?_
  rotate_left
  focus ((intro w hSw; (try dsimp only at hSw); go_simp); (try with_reducible rfl))
  try simp only [Act.put, List.setIfInBounds_toArray, List.set_cons_zero, List.set_cons_succ]
  refine wpAnyH_ready (rs := [2]) (by kernel_rfl) (by simp) ?_
  refine AllReadyH.cons (o := { dst := some 47, op := Op.slice 9 (Operand.tmp 45) none (some (Operand.tmp 46)) none, type := 9, pos := "money.go:123", after := #[{ on := 0, ground := Ground.data }, { on := 1, ground := Ground.data }], guard := none }) rfl (fun K hK => ?_) AllReadyH.nil
  clear hHeld
  go_simp
  refine hK.out _ _ (by (try dsimp only); first | exact k3 | exact g1) (fun hHeld => ?_)
  clear hK K
  try simp only [Act.put, List.setIfInBounds_toArray, List.set_cons_zero, List.set_cons_succ]
  refine wpAnyH_ready (rs := [5]) (by kernel_rfl) (by simp) ?_
  refine AllReadyH.cons (o := { dst := some 50, op := Op.call { callee := Callee.value (Operand.func 65), args := #[Operand.tmp 47, Operand.tmp 49], argTypes := #[9, 3] }, type := 83, pos := "money.go:123", after := #[{ on := 2, ground := Ground.data }, { on := 4, ground := Ground.data }], guard := none }) rfl (fun K hK => ?_) AllReadyH.nil
  clear hHeld
  go_simp
  refine (HPA.out _ (HG.out.below (by first | exact below_drew hb | exact hB0 ▸ below_drew hb))).mono ?_
  rintro _ w4 ⟨rfl, hB4⟩
  have HE4 := Lib.hid (show TwoAt w4 E1 26 (.string (s.extract (m + 1) s.size)) (.int .i64 pi) from TwoAt.below (w := W3.drew) HE.out hB4)
  have hP4 : PairAt w4 B0 35 ⟨#[]⟩ ⟨#[]⟩ := PairAt.below (w := W3.drew) hP3 hB4
  have hb4 := (below_drew hb).trans (hB4.mono (below_drew hb).size)
  clear hB4 hb hP3
  have hb := hb4
  clear hb4
  obtain ⟨g0, g1, _, _⟩ := HE4.out.cells
  go_wp2_with fail
  refine hK.out _ _ (by (try dsimp only); first | exact k3 | exact g1) (fun hHeld => ?_)
  clear hK K
  try simp only [Act.put, List.setIfInBounds_toArray, List.set_cons_zero, List.set_cons_succ]
  refine wpAnyH_take (i := 6) (oi := { dst := some 44, op := Op.move (Operand.tmp 50), type := 83, pos := "money.go:123", after := #[{ on := 5, ground := Ground.data }], guard := none }) (v := ?_) rfl (by kernel_rfl) (by kernel_rfl) (by kernel_rfl) (fun _ _ _ h => h) (Or.inl ⟨by rfl, ?_⟩) (by assumption) ?_
  rotate_left
  focus ((intro w hSw; (try dsimp only at hSw); go_simp); (try with_reducible rfl))
  try simp only [Act.put, List.setIfInBounds_toArray, List.set_cons_zero, List.set_cons_succ]
  refine wpAnyH_take (i := 7) (oi := { dst := some 51, op := Op.extract (Operand.tmp 44) 0, type := 33, pos := "money.go:123", after := #[{ on := 6, ground := Ground.data }], guard := none }) (v := ?_) rfl (by kernel_rfl) (by kernel_rfl) (by kernel_rfl) (fun _ _ _ h => h) (Or.inl ⟨by rfl, ?_⟩) (by assumption) ?_
  rotate_left
  focus ((intro w hSw; (try dsimp only at hSw); go_simp); (try with_reducible rfl))
  try simp only [Act.put, List.setIfInBounds_toArray, List.set_cons_zero, List.set_cons_succ]
  refine wpAnyH_take (i := 8) (oi := { dst := some 52, op := Op.extract (Operand.tmp 44) 1, type := 29, pos := "money.go:123", after := #[{ on := 6, ground := Ground.data }, { on := 9, ground := Ground.gcOnly Departure.lateStores }], guard := none }) (v := ?_) rfl (by kernel_rfl) (by kernel_rfl) (by kernel_rfl) (fun _ _ _ h => h) (Or.inl ⟨by rfl, ?_⟩) (by assumption) ?_
  rotate_left
  focus ((intro w hSw; (try dsimp only at hSw); go_simp); (try with_reducible rfl))
  try simp only [Act.put, List.setIfInBounds_toArray, List.set_cons_zero, List.set_cons_succ]
  refine wpAnyH_take (i := 9) (oi := { dst := some 9, op := Op.assign (Operand.tmp 51), type := 33, pos := "money.go:123", after := #[{ on := 7, ground := Ground.data }, { on := 5, ground := Ground.chain }, { on := 0, ground := Ground.phase }, { on := 1, ground := Ground.phase }, { on := 2, ground := Ground.phase }, { on := 3, ground := Ground.phase }, { on := 4, ground := Ground.phase }, { on := 5, ground := Ground.phase }, { on := 6, ground := Ground.phase }, { on := 7, ground := Ground.phase }, { on := 8, ground := Ground.textOnly Departure.lateStores }], guard := none }) (v := ?_) rfl (by kernel_rfl) (by kernel_rfl) (by kernel_rfl) (fun _ _ _ h => h) (Or.inl ⟨by rfl, ?_⟩) (by assumption) ?_
  rotate_left
  focus ((intro w hSw; (try dsimp only at hSw); go_simp); (try with_reducible rfl))
  try simp only [Act.put, List.setIfInBounds_toArray, List.set_cons_zero, List.set_cons_succ]
  refine wpAnyH_take (i := 10) (oi := { dst := some 10, op := Op.assign (Operand.tmp 52), type := 29, pos := "money.go:123", after := #[{ on := 8, ground := Ground.data }, { on := 9, ground := Ground.chain }, { on := 0, ground := Ground.phase }, { on := 1, ground := Ground.phase }, { on := 2, ground := Ground.phase }, { on := 3, ground := Ground.phase }, { on := 4, ground := Ground.phase }, { on := 5, ground := Ground.phase }, { on := 6, ground := Ground.phase }, { on := 7, ground := Ground.phase }, { on := 8, ground := Ground.phase }, { on := 9, ground := Ground.phase }], guard := none }) (v := ?_) rfl (by kernel_rfl) (by kernel_rfl) (by kernel_rfl) (fun _ _ _ h => h) (Or.inl ⟨by rfl, ?_⟩) (by assumption) ?_
  rotate_left
  focus ((intro w hSw; (try dsimp only at hSw); go_simp); (try with_reducible rfl))
  try simp only [Act.put, List.setIfInBounds_toArray, List.set_cons_zero, List.set_cons_succ]
  refine wpAnyH_done (by kernel_rfl) ?_ _
  clear hHeld
  clear k2 k3 HE
  obtain ⟨m0, m1, m2, m3⟩ := hP4.cells
  have hPN := hP4.put (s.extract (m + 1) s.size) a
  obtain ⟨l0, l1, _, _⟩ := hPN.cells
  have HBN := Lib.hid ((hb.setCell (p := ⟨B0, 0, none⟩) HBW.out (.string (s.extract (m + 1) s.size))).setCell (p := ⟨B0, 1, none⟩) HBW.out (.string a))
  clear hPN
  go_wp2_with fail
  (try simp only [Exit.inBlock, Exit.then])
  exact bodyPost_ret (v := .tuple #[.agg #[.string (s.extract (m + 1) s.size), .string a], .int .i64 (0)]) (by simp [results, Tryz.results33, go_sem, l0, l1]) rfl ⟨rfl, by first | exact HBN.out | exact hB0 ▸ HBN.out⟩


end Go.Proofs.YtahnkmkmoalbhaaGreatDoor

/- Layer 5: Text and Parse of both sides return the same; the laws' awake. -/
namespace Go.Proofs.YtahnkmkmoalbhaaGreatDoor
open Go.RowKit

/-! ### awake -/
def sUSD : ByteArray := ⟨#[85, 83, 68]⟩
def sJPY : ByteArray := ⟨#[74, 80, 89]⟩
def sEUR : ByteArray := ⟨#[69, 85, 82]⟩
def exC (i : Nat) : ByteArray := if i = 0 then sUSD else sJPY
def exP (i : Nat) : Int := if i = 0 then 2 else 0
theorem Rt.two (w : World) (x y : ByteArray) (p q : Int) (ty : TypeId) : Rt (w.alloc (.cells #[.string x, .int .i64 p, .string y, .int .i64 q] ty)) (some ⟨w.heap.size, 0, none⟩) 2 (fun i => if i = 0 then x else y) (fun i => if i = 0 then p else q) :=
  ⟨fun _ => ⟨w.heap.size, 0, rfl, by rw [World.size_alloc]; omega, fun i hi => by
    rw [cell_of_row _ _ _ _ _ _ (heap_alloc_new _ _)]
    rcases (show i = 0 ∨ i = 1 ∨ i = 2 ∨ i = 3 by omega) with rfl | rfl | rfl | rfl <;> rfl⟩⟩
theorem Rf.two (w : World) (x y p q : ByteArray) (ty : TypeId) : Rf (w.alloc (.cells #[.string x, .string p, .string y, .string q] ty)) (some ⟨w.heap.size, 0, none⟩) 2 (fun i => if i = 0 then x else y) (fun i => if i = 0 then p else q) :=
  ⟨fun _ => ⟨w.heap.size, 0, rfl, by rw [World.size_alloc]; omega, fun i hi => by
    rw [cell_of_row _ _ _ _ _ _ (heap_alloc_new _ _)]
    rcases (show i = 0 ∨ i = 1 ∨ i = 2 ∨ i = 3 by omega) with rfl | rfl | rfl | rfl <;> rfl⟩⟩
set_option maxRecDepth 100000 in
set_option maxHeartbeats 4000000 in
theorem aExample (W : World) : Calls Tryz.prog 45 #[] W fun e w' => ∃ b, e = .returned (.slice (some ⟨b, 0, none⟩) 2 2) ∧ Rt w' (some ⟨b, 0, none⟩) 2 exC exP ∧ Below W.heap.size W w' := by
  go_enter Tryz.func45, Tryz.ntmps45
  go_wp2_with fail
  go_ret
  exact ⟨W.heap.size, rfl, Rt.two _ _ _ _ _ _, (Below.refl _ _).alloc (Nat.le_refl _) _⟩
theorem ex_fit : FitT 2 exC := ⟨by omega, fun i _ => by unfold exC; split <;> decide⟩
theorem ex_tab : tabE 2 exC exP = 0 := by decide +kernel
theorem aw_text1 : OnT 31 2 exC exP sUSD ⟨#[45, 49, 50, 51, 52]⟩ (strE ⟨#[45, 49, 50, 46, 51, 52, 32, 85, 83, 68]⟩ 0) := fun W xa ca hG hr => by
  have := pText_ok (x := sUSD) (z := ⟨#[45, 49, 50, 51, 52]⟩) ex_fit (by decide) (by decide) (i := 0) ex_tab (by decide +kernel) (by decide +kernel) W xa ca hG hr
  rw [show txt (vS ⟨#[45, 49, 50, 51, 52]⟩) (exP 0).toNat ++ ⟨#[32]⟩ ++ sUSD = ⟨#[45, 49, 50, 46, 51, 52, 32, 85, 83, 68]⟩ by decide +kernel] at this
  exact this
theorem aw_text2 : OnT 31 2 exC exP sJPY ⟨#[53]⟩ (strE ⟨#[53, 32, 74, 80, 89]⟩ 0) := fun W xa ca hG hr => by
  have := pText_ok (x := sJPY) (z := ⟨#[53]⟩) ex_fit (by decide) (by decide) (i := 1) ex_tab (by decide +kernel) (by decide +kernel) W xa ca hG hr
  rw [show txt (vS ⟨#[53]⟩) (exP 1).toNat ++ ⟨#[32]⟩ ++ sJPY = ⟨#[53, 32, 74, 80, 89]⟩ by decide +kernel] at this
  exact this
def sHalf : ByteArray := ⟨#[48, 46, 53, 48, 48, 32, 85, 83, 68]⟩
def sFine : ByteArray := ⟨#[48, 46, 48, 48, 53, 32, 85, 83, 68]⟩
theorem aw_parse1 : OnP 33 2 exC exP sHalf (monE sUSD ⟨#[53, 48]⟩ 0) := fun W xa ca hG hr => by
  have hm : ParP sHalf 5 := ⟨by decide, by decide +kernel, by decide +kernel⟩
  have := pPar_ok (s := sHalf) ex_fit ex_tab (by decide) hm (i := 0) (by decide +kernel) ⟨#[53, 48]⟩ (by
    have := dParse_ok (s := sHalf.extract 0 5) (p := 2) (m := 50) (by decide +kernel) (by decide +kernel) (by decide) (by decide +kernel)
    rw [show cS 50 = ⟨#[53, 48]⟩ by decide +kernel] at this
    exact this) W xa ca hG hr
  rw [show sHalf.extract (5 + 1) sHalf.size = sUSD by decide +kernel] at this
  exact this
theorem aw_parse2 : OnP 33 2 exC exP sFine (monE ⟨#[]⟩ ⟨#[]⟩ 22) := fun W xa ca hG hr => by
  have hm : ParP sFine 5 := ⟨by decide, by decide +kernel, by decide +kernel⟩
  exact pPar_err (s := sFine) ex_fit ex_tab (by decide) hm (i := 0) (by decide +kernel) ⟨#[]⟩ 22 (by decide) (dParse_inexact (s := sFine.extract 0 5) (p := 2) (by decide +kernel) (by decide +kernel) (by decide) (by decide +kernel)) W xa ca hG hr
def two2 (x y : ByteArray) (i : Nat) : ByteArray := if i = 0 then x else y
theorem two_shrt {x y p q : ByteArray} (h : x.size ≤ 8 ∧ y.size ≤ 8 ∧ p.size ≤ 20 ∧ q.size ≤ 20) : Shrt 2 (two2 x y) (two2 p q) := ⟨by omega, fun i _ => by unfold two2; split <;> omega, fun i _ => by unfold two2; split <;> omega⟩
theorem aw_sum : On2 29 2 (two2 sEUR sUSD) (two2 ⟨#[53]⟩ ⟨#[45, 51]⟩) 2 (two2 sJPY sUSD) (two2 ⟨#[55]⟩ ⟨#[51]⟩) (BagP [(sEUR, 5), (sJPY, 7)] 0) := by
  have := p_sum (two_shrt (x := sEUR) (y := sUSD) (p := ⟨#[53]⟩) (q := ⟨#[45, 51]⟩) (by decide)) (two_shrt (x := sJPY) (y := sUSD) (p := ⟨#[55]⟩) (q := ⟨#[51]⟩) (by decide))
  rw [show sumO 2 (two2 sEUR sUSD) (two2 ⟨#[53]⟩ ⟨#[45, 51]⟩) 2 (two2 sJPY sUSD) (two2 ⟨#[55]⟩ ⟨#[51]⟩) = ([(sEUR, 5), (sJPY, 7)], 0) by decide +kernel] at this
  exact this

end Go.Proofs.YtahnkmkmoalbhaaGreatDoor

/- Layer 5: the law MoneyPuts over the program's contracts. -/
namespace Go.Proofs.YtahnkmkmoalbhaaGreatDoor
open Go.RowKit

/-- an amount that the law leaves out -/
def outP (c z : ByteArray) : Bool := wideB c z || (!isCan z || !codeS c)
theorem outP_false {c z : ByteArray} (h : outP c z = false) : c.size ≤ 8 ∧ z.size ≤ 13 ∧ isCan z = true ∧ codeS c = true := by
  unfold outP wideB longA at h
  simp at h
  exact ⟨by omega, by omega, h.2.1, h.2.2⟩
theorem one_bag (c : ByteArray) : bagE isCan 1 (fun _ => c) (fun _ => ⟨#[49]⟩) = if codeS c = true then 0 else 23 := by
  have e : bagE isCan 1 (fun _ => c) (fun _ => ⟨#[49]⟩) = bagAt isCan (fun _ => c) (fun _ => ⟨#[49]⟩) 0 := by
    unfold bagE
    rw [if_neg (by omega)]
    rfl
  rw [e]
  unfold bagAt
  cases h : codeS c with
  | false => rfl
  | true =>
    rw [if_neg (by decide), if_neg (by decide +kernel), if_neg (by decide), if_neg (by omega)]
    rfl
set_option maxRecDepth 100000 in
set_option maxHeartbeats 16000000 in
theorem out_wide (c z : ByteArray) (w : World) (hG : Ground w) (h1 : wideB c z = true) :
    Calls Tryz.prog 38 #[.agg #[.string c, .string z]] w (ValP (.bool (outP c z)) w) := by
  obtain ⟨W0, hW0⟩ : ∃ W, W = w.alloc (.cells #[.string c, .string z] 35) := ⟨_, rfl⟩
  have hP0 : PairAt W0 w.heap.size 35 c z := by rw [hW0]; exact PairAt.made _ _ _ _
  have hb0 : Below w.heap.size w W0 := by rw [hW0]; exact (Below.refl _ _).alloc (Nat.le_refl _) _
  have HP := Lib.hid hP0
  have HB := Lib.hid hb0
  have HLO := Lib.hid (fun W => rLongM c z W)
  have HG := Lib.hid hG
  rw [h1] at HLO
  rw [show outP c z = true by unfold outP; rw [h1]; rfl]
  unfold ValP
  clear h1 hG hP0 hb0
  go_enter Tryz.func38, Tryz.ntmps38
  go_upto_region 1 with fail
  rw [← hW0]
  clear hW0
  obtain ⟨q1, q2, _, _⟩ := HP.out.cells
  go_wp2_with fail
  refine (HLO.out _).mono ?_
  rintro _ w1 ⟨rfl, hB⟩
  have hb := HB.out.trans (hB.mono HB.out.size)
  have hP := HP.out.below hB
  clear hB q1 q2 HLO HB HP
  go_wp2_with fail
  go_ret
  exact ⟨rfl, hb⟩

set_option maxRecDepth 100000 in
set_option maxHeartbeats 16000000 in
theorem out_can (c z : ByteArray) (w : World) (hG : Ground w) (h2 : wideB c z = false) (h1 : isCan z = false) :
    Calls Tryz.prog 38 #[.agg #[.string c, .string z]] w (ValP (.bool (outP c z)) w) := by
  obtain ⟨W0, hW0⟩ : ∃ W, W = w.alloc (.cells #[.string c, .string z] 35) := ⟨_, rfl⟩
  have hP0 : PairAt W0 w.heap.size 35 c z := by rw [hW0]; exact PairAt.made _ _ _ _
  have hb0 : Below w.heap.size w W0 := by rw [hW0]; exact (Below.refl _ _).alloc (Nat.le_refl _) _
  have HP := Lib.hid hP0
  have HB := Lib.hid hb0
  have HLO := Lib.hid (fun W => rLongM c z W)
  have HG := Lib.hid hG
  have HCA := Lib.hid (fun W => check_any z W (by have := h2; unfold wideB longA at this; simp at this; omega))
  rw [h2] at HLO
  rw [show chk z = 1 by unfold chk; rw [h1]; rfl] at HCA
  rw [show outP c z = true by unfold outP; rw [h1]; simp]
  unfold ValP
  clear h1 h2 hG hP0 hb0
  go_enter Tryz.func38, Tryz.ntmps38
  go_upto_region 1 with fail
  rw [← hW0]
  clear hW0
  obtain ⟨q1, q2, _, _⟩ := HP.out.cells
  go_wp2_with fail
  refine (HLO.out _).mono ?_
  rintro _ w1 ⟨rfl, hB⟩
  have hb := HB.out.trans (hB.mono HB.out.size)
  have hP := HP.out.below hB
  clear hB q1 q2 HLO HB HP
  obtain ⟨q1, q2, _, _⟩ := hP.cells
  go_wp2_with fail
  refine (HCA.out _).mono ?_
  rintro _ _ ⟨rfl, rfl⟩
  go_wp2_with fail
  go_ret
  exact ⟨rfl, hb⟩

theorem rf_one (W : World) (c z : ByteArray) (t : TypeId) : Rf (W.alloc (.cells #[.string c, .string z] t)) (some ⟨W.heap.size, 0, none⟩) 1 (fun _ => c) (fun _ => z) :=
  ⟨fun _ => ⟨W.heap.size, 0, rfl, by rw [World.size_alloc]; omega, fun i hi => by
    rcases (show i = 0 ∨ i = 1 by omega) with rfl | rfl
    · exact cell_of_row _ _ _ _ _ _ (heap_alloc_new W _)
    · exact cell_of_row _ _ _ _ _ _ (heap_alloc_new W _)⟩⟩

set_option maxRecDepth 100000 in
set_option maxHeartbeats 16000000 in
theorem out_code (hchk : ∀ {n : Nat} {u v : Nat → ByteArray}, Shrt n u v → On1 24 n u v (ValP (.int .i64 (bagE isCan n u v)))) (c z : ByteArray) (w : World) (hG : Ground w) (h2 : wideB c z = false) (h1 : isCan z = true) :
    Calls Tryz.prog 38 #[.agg #[.string c, .string z]] w (ValP (.bool (outP c z)) w) := by
  obtain ⟨W0, hW0⟩ : ∃ W, W = w.alloc (.cells #[.string c, .string z] 35) := ⟨_, rfl⟩
  have hP0 : PairAt W0 w.heap.size 35 c z := by rw [hW0]; exact PairAt.made _ _ _ _
  have hb0 : Below w.heap.size w W0 := by rw [hW0]; exact (Below.refl _ _).alloc (Nat.le_refl _) _
  have HP := Lib.hid hP0
  have HB := Lib.hid hb0
  have HLO := Lib.hid (fun W => rLongM c z W)
  have HG := Lib.hid hG
  have HCA := Lib.hid (fun W => check_any z W (by have := h2; unfold wideB longA at this; simp at this; omega))
  have hcs : c.size ≤ 8 := by have := h2; unfold wideB longA at this; simp at this; omega
  have hck1 : ∀ W, Ground W → Calls Tryz.prog 24 #[.slice (some ⟨W.heap.size, 0, none⟩) 1 1] (W.alloc (.cells #[.string c, .string ⟨#[49]⟩] 35)) (fun e w' => e = .returned (.int .i64 (if codeS c = true then 0 else 23)) ∧ Below W.heap.size W w') := fun W hG => by
    have h := hchk (n := 1) (u := fun _ => c) (v := fun _ => ⟨#[49]⟩) ⟨by omega, fun _ _ => hcs, fun _ _ => by decide⟩ (W.alloc (.cells #[.string c, .string ⟨#[49]⟩] 35)) (some ⟨W.heap.size, 0, none⟩) 1 (hG.below ((Below.refl _ W).alloc (Nat.le_refl _) _)) (rf_one W c ⟨#[49]⟩ 35)
    rw [one_bag] at h
    exact h.mono fun e w' hh => ⟨hh.1, ((Below.refl _ W).alloc (Nat.le_refl _) _).trans (hh.2.mono (by rw [World.size_alloc]; omega))⟩
  have HCK := Lib.hid hck1
  rw [h2] at HLO
  rw [show chk z = 0 by unfold chk; rw [h1]; rfl] at HCA
  obtain ⟨d, hd⟩ : ∃ d, (if codeS c = true then (0 : Int) else 23) = d := ⟨_, rfl⟩
  rw [hd] at HCK
  rw [show outP c z = (d != 0) by unfold outP; rw [h1, h2, ← hd]; cases codeS c <;> rfl]
  unfold ValP
  clear h1 h2 hG hP0 hb0 hchk hd hcs hck1
  go_enter Tryz.func38, Tryz.ntmps38
  go_upto_region 1 with fail
  rw [← hW0]
  clear hW0
  obtain ⟨q1, q2, _, _⟩ := HP.out.cells
  go_wp2_with fail
  refine (HLO.out _).mono ?_
  rintro _ w1 ⟨rfl, hB⟩
  have hb := HB.out.trans (hB.mono HB.out.size)
  have hP := HP.out.below hB
  clear hB q1 q2 HLO HB HP
  obtain ⟨q1, q2, _, _⟩ := hP.cells
  go_wp2_with fail
  refine (HCA.out _).mono ?_
  rintro _ _ ⟨rfl, rfl⟩
  go_wp2_with fail
  refine (HCK.out _ (HG.out.below hb)).mono ?_
  rintro _ w3 ⟨rfl, hB⟩
  go_wp2_with fail
  go_ret
  exact ⟨rfl, hb.trans (hB.mono hb.size)⟩

theorem rOut (hchk : ∀ {n : Nat} {u v : Nat → ByteArray}, Shrt n u v → On1 24 n u v (ValP (.int .i64 (bagE isCan n u v)))) (c z : ByteArray) (w : World) (hG : Ground w) :
    Calls Tryz.prog 38 #[.agg #[.string c, .string z]] w (ValP (.bool (outP c z)) w) := by
  cases h1 : wideB c z with
  | true => exact out_wide c z w hG h1
  | false =>
    cases h2 : isCan z with
    | false => exact out_can c z w hG h1 h2
    | true => exact out_code hchk c z w hG h1 h2

theorem putB {A : Bag} {c z : ByteArray} (hput : ∀ {n : Nat} {u v : Nat → ByteArray} {c z : ByteArray}, Shrt n u v → c.size ≤ 8 → z.size ≤ 13 → OnM 20 n u v c z (BagP (putO n u v c z).1 (putO n u v c z).2)) (ha : OkB A) (ca : CapB (10 ^ 18) A) (hz : outP c z = false) {X : Bag} (hX : put A c (vS z) = X) (hl : X.length ≤ 16) (W : World) (xa : Option Addr) (d : Nat) (hG : Ground W) (hx : RB W xa A) :
    Calls Tryz.prog 20 #[.slice xa A.length (A.length + d), .agg #[.string c, .string z]] W (BagP X 0 W) := by
  obtain ⟨z1, z2, z3, z4⟩ := outP_false hz
  have h1 := hput (ha.shrt ca) z1 z2 W xa d hG hx
  rw [show putO A.length (atU A) (fun i => cS (atX A i)) c z = (X, 0) by
    unfold putO
    rw [if_pos ha.bag, if_pos z4, if_pos z3, OkB.row, hX, if_neg (by omega)]] at h1
  exact h1
theorem okB_putAll {g : Nat → ByteArray × Int} {k : Nat} (hk : k ≤ 8) (hc : ∀ i, i < k → codeS (g i).1 = true) : OkB (putAll g k) := ⟨putAll_asc g k, putAll_nz g k, putAll_code (P := fun c => codeS c = true) k hc, by have := putAll_len g k; omega⟩

set_option maxRecDepth 100000 in
set_option maxHeartbeats 16000000 in
theorem amp_many (HMO : MoneyOk) (xa : Option Addr) (n ca : Nat) (b : Nat) (w : World) (hG : Ground w) (hn : 8 < n) :
    Calls Tryz.prog 9 #[.slice xa n ca, .int .u8 (b : Int)] w (ValP (.bool true) w) := by
  have HAW := Lib.hid HMO.awake
  have HG := Lib.hid hG
  unfold ValP at HAW ⊢
  have hi : (8 : Int) < (n : Int) := by omega
  have hb := Below.refl w.heap.size w
  clear hn HMO hG
  go_enter Tryz.func9, Tryz.ntmps9
  go_wp2_with fail
  refine (HAW.out _ (HG.out.below hb)).mono ?_
  rintro _ w2 ⟨rfl, hB⟩
  go_wp2_with fail
  go_ret
  exact ⟨rfl, hb.trans (hB.mono hb.size)⟩

set_option maxRecDepth 100000 in
set_option maxHeartbeats 16000000 in
theorem amp_out (HMO : MoneyOk) (xa : Option Addr) (n ca : Nat) (u v : Nat → ByteArray) (b : Nat) (w : World) (hG : Ground w) (hx : Rf w xa n u v) (hn : n ≤ 8) (hl : (List.range n).any (fun i => outP (u i) (v i)) = true) :
    Calls Tryz.prog 9 #[.slice xa n ca, .int .u8 (b : Int)] w (ValP (.bool true) w) := by
  have HHA := Lib.hid (hasWrong5 w xa n ca u v hx (by omega) (fun i => outP (u i) (v i)) (fun i hi W hB => rOut HMO.chk (u i) (v i) W (hG.below hB)))
  rw [hl] at HHA
  have HAW := Lib.hid HMO.awake
  have HG := Lib.hid hG
  unfold ValP at HAW ⊢
  have hi : ¬ (8 : Int) < (n : Int) := by omega
  clear hn HMO hG hx hl
  go_enter Tryz.func9, Tryz.ntmps9
  go_wp2_with fail
  refine HHA.out.mono ?_
  rintro _ w1 ⟨rfl, hb⟩
  go_wp2_with fail
  refine (HAW.out _ (HG.out.below hb)).mono ?_
  rintro _ w2 ⟨rfl, hB⟩
  go_wp2_with fail
  go_ret
  exact ⟨rfl, hb.trans (hB.mono hb.size)⟩

set_option maxRecDepth 100000 in
set_option maxHeartbeats 16000000 in
theorem amp_ok (HMO : MoneyOk) (hput : ∀ {n : Nat} {u v : Nat → ByteArray} {c z : ByteArray}, Shrt n u v → c.size ≤ 8 → z.size ≤ 13 → OnM 20 n u v c z (BagP (putO n u v c z).1 (putO n u v c z).2)) (xa : Option Addr) (n ca : Nat) (u v : Nat → ByteArray) (b : Nat) (w : World) (hG : Ground w) (hx : Rf w xa n u v) (hb8 : b ≤ 255) (hn : n ≤ 8) (hl : (List.range n).any (fun i => outP (u i) (v i)) = false) :
    Calls Tryz.prog 9 #[.slice xa n ca, .int .u8 (b : Int)] w (ValP (.bool true) w) := by
  have HHA := Lib.hid (hasWrong5 w xa n ca u v hx (by omega) (fun i => outP (u i) (v i)) (fun i hi W hB => rOut HMO.chk (u i) (v i) W (hG.below hB)))
  rw [hl] at HHA
  have HAW := Lib.hid HMO.awake
  have HG := Lib.hid hG
  unfold ValP at HAW ⊢
  have hi : ¬ (8 : Int) < (n : Int) := by omega
  have hout : ∀ i, i < n → outP (u i) (v i) = false := fun i hi => by simpa using List.any_eq_false.1 hl i (List.mem_range.2 hi)
  obtain ⟨g, hg⟩ : ∃ g : Nat → ByteArray × Int, (fun i => (u i, vS (v i))) = g := ⟨_, rfl⟩
  obtain ⟨g2, hg2⟩ : ∃ g2 : Nat → ByteArray × Int, (fun i => g ((n - 1 - i + b) % n)) = g2 := ⟨_, rfl⟩
  have gu : ∀ i, g i = (u i, vS (v i)) := fun i => by rw [← hg]
  have g2u : ∀ i, g2 i = g ((n - 1 - i + b) % n) := fun i => by rw [← hg2]
  have gc : ∀ i, i < n → codeS (g i).1 = true := fun i hi => by rw [gu]; exact (outP_false (hout i hi)).2.2.2
  have gm : ∀ i, i < n → (g i).2.natAbs ≤ 10 ^ 13 := fun i hi => by
    rw [gu]
    have h2 : (vS (v i)).natAbs < 10 ^ 13 := Cap.of (outP_false (hout i hi)).2.1 rfl
    show (vS (v i)).natAbs ≤ _
    omega
  have hmod : ∀ i, i < n → (n - 1 - i + b) % n < n := fun i hi => Nat.mod_lt _ (by omega)
  have capk : ∀ (h : Nat → ByteArray × Int), (∀ i, i < n → (h i).2.natAbs ≤ 10 ^ 13) → ∀ k, k ≤ n → CapB (10 ^ 18) (putAll h k) := fun h hh k hk p hp => by
    have h1 := putAll_cap (M := 10 ^ 13) k (fun i hi => hh i (by omega)) p hp
    have h2 : k * 10 ^ 13 ≤ 8 * 10 ^ 13 := Nat.mul_le_mul_right _ (by omega)
    omega
  have HP1 := Lib.hid (fun k (hk : k < n) => (fun W xa d hG hx => putB hput (okB_putAll (g := g) (k := k) (by omega) (fun i hi => gc i (by omega))) (capk g gm k (by omega)) (hout k hk) (X := putAll g (k + 1)) (by rw [putAll, gu k]) (by have := putAll_len g (k + 1); omega) W xa d hG hx : ∀ W xa d, Ground W → RB W xa (putAll g k) → Calls Tryz.prog 20 #[.slice xa (putAll g k).length ((putAll g k).length + d), .agg #[.string (u k), .string (v k)]] W (BagP (putAll g (k + 1)) 0 W)))
  have HP2 := Lib.hid (fun k (hk : k < n) j (hj : (n - 1 - k + b) % n = j) => (fun W xa d hG hx => putB hput (okB_putAll (g := g2) (k := k) (by omega) (fun i hi => by rw [g2u]; exact gc _ (hmod i (by omega)))) (capk g2 (fun i hi => by rw [g2u]; exact gm _ (hmod i hi)) k (by omega)) (hout j (by rw [← hj]; exact hmod k hk)) (X := putAll g2 (k + 1)) (by rw [putAll, g2u k, hj, gu j]) (by have := putAll_len g2 (k + 1); omega) W xa d hG hx : ∀ W xa d, Ground W → RB W xa (putAll g2 k) → Calls Tryz.prog 20 #[.slice xa (putAll g2 k).length ((putAll g2 k).length + d), .agg #[.string (u j), .string (v j)]] W (BagP (putAll g2 (k + 1)) 0 W)))
  have HP3 := Lib.hid (fun k (hk : k < n) => (fun W hG => putB hput okB_nil (capB_nil _) (hout k hk) (X := put [] (u k) (vS (v k))) rfl (by have := put_len [] (u k) (vS (v k)); simp at this; omega) W none 0 hG (Rc.nil _ _ _) : ∀ W, Ground W → Calls Tryz.prog 20 #[.slice none 0 0, .agg #[.string (u k), .string (v k)]] W (BagP (put [] (u k) (vS (v k))) 0 W)))
  have HP4 := Lib.hid (fun k (hk : k < n) => (fun W xa ya c d hG hx hy => HMO.sumB (okB_putAll (g := g) (k := k) (by omega) (fun i hi => gc i (by omega))) ⟨put_asc List.Pairwise.nil _ _, put_nz (fun _ h => absurd h (by simp)) _ _, fun p hp => by
      rcases put_codes p hp with e | ⟨y, hy, _⟩
      · rw [e]; exact (outP_false (hout k hk)).2.2.2
      · exact absurd hy (by simp), by have := put_len [] (u k) (vS (v k)); simp at this; omega⟩ (capk g gm k (by omega)) (fun p hp => by
      have h1 : (vS (v k)).natAbs < 10 ^ 13 := Cap.of (outP_false (hout k hk)).2.1 rfl
      have := put_all (P := fun z => z.natAbs ≤ 10 ^ 18) (b := []) (c := u k) (x := vS (v k)) (fun _ h => absurd h (by simp)) (by show (vS (v k)).natAbs ≤ _; omega) (fun _ h => absurd h (by simp)) p hp
      exact this) (by rw [addB_one]; have := putAll_len g (k + 1); rw [putAll, gu k] at this; dsimp only at this; omega) (X := putAll g (k + 1)) (by rw [addB_one, putAll, gu k]) W xa ya c d hG hx hy : ∀ W xa ya c d, Ground W → RB W xa (putAll g k) → RB W ya (put [] (u k) (vS (v k))) → Calls Tryz.prog 29 #[.slice xa (putAll g k).length ((putAll g k).length + c), .slice ya (put [] (u k) (vS (v k))).length ((put [] (u k) (vS (v k))).length + d)] W (BagP (putAll g (k + 1)) 0 W)))
  have hord : putAll g2 n = putAll g n := by rw [← hg2]; exact putAll_order g n b
  have okn := okB_putAll (g := g) (k := n) hn gc
  have hpl := putAll_len g n
  have EX := Lib.hid (fun W xa ya c d hx hy => eqBag (putAll g n) (by omega) W xa ya c d hx hy)
  have CK := Lib.hid (fun W xa c hG hx => HMO.chkB okn (capk g gm n (Nat.le_refl _)) W xa c hG hx)
  have HORD := Lib.hid hord
  have HX := Lib.hid hx
  have HR0 := Lib.hid (fun W => (Rc.nil W none _ : RB W none (putAll g 0)))
  have HR1 := Lib.hid (fun W => (Rc.nil W none _ : RB W none (putAll g2 0)))
  unfold ValP at EX CK
  unfold BagP at HP1 HP2 HP3 HP4
  clear HMO hG hx hl hout hg hg2 gu g2u gc gm hmod capk hord okn hpl hput
  go_enter Tryz.func9, Tryz.ntmps9
  go_wp2_with fail
  refine HHA.out.mono ?_
  rintro _ w1 ⟨rfl, hb⟩
  have HB0 := Lib.hid hb
  clear hb HHA
  go_wp2_with fail
  go_loopw [5, 6, 7, 25] (fun bv ov sv iv wr => ∃ (k : Nat) (ba : Option Addr) (bc : Nat) (oa : Option Addr) (oc : Nat) (sa : Option Addr) (sc : Nat), k ≤ n ∧ iv = .int .i64 (k : Int) ∧ bv = .slice ba (putAll g k).length ((putAll g k).length + bc) ∧ ov = .slice oa (putAll g2 k).length ((putAll g2 k).length + oc) ∧ sv = .slice sa (putAll g k).length ((putAll g k).length + sc) ∧ Hid (RB wr ba (putAll g k)) ∧ Hid (RB wr oa (putAll g2 k)) ∧ Hid (RB wr sa (putAll g k)) ∧ Hid (Below w.heap.size w wr)) (fun _ _ _ iv _ => n - (intOf iv).toNat)
  case atStart => exact ⟨0, none, 0, none, 0, none, 0, Nat.zero_le _, rfl, rfl, rfl, rfl, Lib.hid (HR0.out _), Lib.hid (HR1.out _), Lib.hid (HR0.out _), HB0⟩
  case round =>
    clear HB0 HR0 HR1
    obtain ⟨k, ba, bc, oa, oc, sa, sc, hk, rfl, rfl, rfl, rfl, hr1, hr2, hr3, HB⟩ := hrel
    have hb := HB.out
    clear HB
    by_cases hlt : k < n
    · obtain ⟨zb, zo, rfl, hzb, z1, z2⟩ := Rf.at HX.out hlt
      have m1 := (hb.cell (p := ⟨zb, zo + k * 2, none⟩) hzb).trans z1
      have m2 := (hb.cell (p := ⟨zb, zo + k * 2 + 1, none⟩) hzb).trans z2
      obtain ⟨j, hj⟩ : ∃ j, (n - 1 - k + b) % n = j := ⟨_, rfl⟩
      have hjn : j < n := by rw [← hj]; exact Nat.mod_lt _ (by omega)
      obtain ⟨zb', zo', e', _, y1, y2⟩ := Rf.at HX.out hjn
      obtain ⟨rfl, rfl⟩ : zb = zb' ∧ zo = zo' := by injection e' with e'; injection e' with e1 e2; exact ⟨e1, e2⟩
      have hm : ((n : Int) - 1 - (k : Int) + (b : Int)) % (n : Int) = (j : Int) := by rw [show (n : Int) - 1 - (k : Int) + (b : Int) = ((n - 1 - k + b : Nat) : Int) by omega, ← hj, Int.natCast_emod]
      have htm : Int.tmod ((n : Int) - 1 - (k : Int) + (b : Int)) (n : Int) = (j : Int) := by rw [Int.tmod_eq_emod_of_nonneg (by omega)]; exact hm
      have hwa : IntKind.i64.wrap ((n : Int) - 1) = (n : Int) - 1 := IntWalk.i64_in _ (by omega)
      have hwb : IntKind.i64.wrap ((n : Int) - 1 - (k : Int)) = (n : Int) - 1 - (k : Int) := IntWalk.i64_in _ (by omega)
      have hwc : IntKind.i64.wrap ((n : Int) - 1 - (k : Int) + (b : Int)) = (n : Int) - 1 - (k : Int) + (b : Int) := IntWalk.i64_in _ (by omega)
      have hwd : IntKind.i64.wrap (b : Int) = (b : Int) := IntWalk.i64_in _ (by omega)
      have hwe : IntKind.i64.wrap (j : Int) = (j : Int) := IntWalk.i64_in _ (by omega)
      have hw1 : IntKind.i64.wrap ((k : Int) + 1) = (k : Int) + 1 := IntWalk.i64_in _ (by omega)
      have hn0 : (n : Int) ≠ 0 := by omega
      have hz1 : ((n : Int) == 0) = false := by rw [beq_eq_false_iff_ne]; omega
      have hnz : n ≠ 0 := by omega
      have hnz2 : (n == 0) = false := by rw [beq_eq_false_iff_ne]; omega
      have hjn2 : (j : Int) < (n : Int) := by omega
      have H1 := Lib.hid (HP1.out k hlt)
      have H2 := Lib.hid (HP2.out k hlt j hj)
      have H3 := Lib.hid (HP3.out k hlt)
      have H4 := Lib.hid (HP4.out k hlt)
      obtain ⟨uk, huk⟩ : ∃ x, u k = x := ⟨_, rfl⟩
      obtain ⟨sk, hsk⟩ : ∃ x, v k = x := ⟨_, rfl⟩
      obtain ⟨uj, huj⟩ : ∃ x, u j = x := ⟨_, rfl⟩
      obtain ⟨sj, hsj⟩ : ∃ x, v j = x := ⟨_, rfl⟩
      rw [huk, hsk] at H1 H3 H4
      rw [huj, hsj] at H2
      rw [huk] at m1
      rw [hsk] at m2
      rw [huj] at y1
      rw [hsj] at y2
      obtain ⟨S8, hS8⟩ : ∃ s, wr.heap.size = s := ⟨_, rfl⟩
      obtain ⟨W1, hW1⟩ : ∃ W, W = wr.alloc (.cells #[.string uk, .string sk] 35) := ⟨_, rfl⟩
      have hP : PairAt W1 S8 35 uk sk := by rw [hW1, ← hS8]; exact PairAt.made _ _ _ _
      replace hb : Below w.heap.size w W1 := by rw [hW1]; exact hb.alloc hb.size _
      have r1 : RB W1 ba (putAll g k) := by rw [hW1]; exact Rc.alloc hr1.out _
      have r2 : RB W1 oa (putAll g2 k) := by rw [hW1]; exact Rc.alloc hr2.out _
      have r3 : RB W1 sa (putAll g k) := by rw [hW1]; exact Rc.alloc hr3.out _
      clear hr1 hr2 hr3 huk hsk huj hsj hj hm e' z1 z2
      go_upto_region 7 with fail
      rw [← hW1]
      try rw [hS8]
      clear hW1 hS8 m1 m2
      obtain ⟨q1, q2, _, _⟩ := hP.cells
      go_wp2_with fail
      refine Calls.mono (H1.out _ _ _ (HG.out.below hb) r1) ?_
      rintro _ _ ⟨b1, c1, rfl, s1, hB⟩
      replace r2 := Rc.below r2 hB
      replace r3 := Rc.below r3 hB
      replace hb := hb.trans (hB.mono hb.size)
      replace hP := hP.below hB
      have m1 := (hb.cell (p := ⟨zb, zo + j * 2, none⟩) hzb).trans y1
      have m2 := (hb.cell (p := ⟨zb, zo + j * 2 + 1, none⟩) hzb).trans y2
      clear hB q1 q2 r1
      go_wp2_with fail
      refine Calls.mono (H2.out _ _ _ (HG.out.below hb) r2) ?_
      rintro _ _ ⟨b2, c2, rfl, s2, hB⟩
      replace s1 := Rc.below s1 hB
      replace r3 := Rc.below r3 hB
      replace hb := hb.trans (hB.mono hb.size)
      replace hP := hP.below hB
      clear hB m1 m2 r2
      obtain ⟨q1, q2, _, _⟩ := hP.cells
      go_wp2_with fail
      refine Calls.mono (H3.out _ (HG.out.below hb)) ?_
      rintro _ _ ⟨b3, c3, rfl, s3, hB⟩
      replace s1 := Rc.below s1 hB
      replace s2 := Rc.below s2 hB
      replace r3 := Rc.below r3 hB
      replace hb := hb.trans (hB.mono hb.size)
      clear hB q1 q2 hP
      go_wp2_with fail
      refine Calls.mono (H4.out _ _ _ _ _ (HG.out.below hb) r3 s3) ?_
      rintro _ _ ⟨b4, c4, rfl, s4, hB⟩
      replace s1 := Rc.below s1 hB
      replace s2 := Rc.below s2 hB
      replace hb := hb.trans (hB.mono hb.size)
      clear hB r3 s3
      have hmax4 : ∀ W : World, (Builtin.max_ #[29, 29, 29, 29] 29 #[.int .i64 0, .int .i64 0, .int .i64 0, .int .i64 0]).run Tryz.prog W = .ok (.int .i64 0) W := fun W => by simp [Builtin.max_, Builtin.max2]
      have R1 := Lib.hid s1
      have R2 := Lib.hid s2
      have R4 := Lib.hid s4
      have HB := Lib.hid hb
      clear s1 s2 s4 hb H1 H2 H3 H4 y1 y2
      go_wp2_with fail
      go_roundw
      case rel => exact ⟨k + 1, b1, c1, b2, c2, b4, c4, by omega, by simp, rfl, rfl, rfl, R1, R2, R4, HB⟩
      case measure => simp [intOf]; omega
    · obtain rfl : k = n := by omega
      rw [HORD.out] at hr2 ⊢
      have xr := hr1.out
      have yr := hr2.out
      have zr := hr3.out
      clear hr1 hr2 hr3 HP1 HP2 HP3 HP4
      obtain ⟨l, hl⟩ : ∃ l, (putAll g k).length = l := ⟨_, rfl⟩
      rw [hl] at EX CK ⊢
      clear hl
      go_wp2_with fail
      refine Calls.mono (EX.out _ _ _ _ _ xr yr) ?_
      rintro _ _ ⟨rfl, hB⟩
      replace xr := Rc.below xr hB
      replace zr := Rc.below zr hB
      replace hb := hb.trans (hB.mono hb.size)
      clear hB yr
      go_wp2_with fail
      refine Calls.mono (EX.out _ _ _ _ _ xr zr) ?_
      rintro _ _ ⟨rfl, hB⟩
      replace xr := Rc.below xr hB
      replace hb := hb.trans (hB.mono hb.size)
      clear hB zr
      go_wp2_with fail
      refine Calls.mono (CK.out _ _ _ (HG.out.below hb) xr) ?_
      rintro _ _ ⟨rfl, hB⟩
      replace hb := hb.trans (hB.mono hb.size)
      clear hB xr
      go_wp2_with fail
      refine (HAW.out _ (HG.out.below hb)).mono ?_
      rintro _ w2 ⟨rfl, hB⟩
      go_wp2_with fail
      go_ret
      exact ⟨rfl, hb.trans (hB.mono hb.size)⟩

end Go.Proofs.YtahnkmkmoalbhaaGreatDoor
